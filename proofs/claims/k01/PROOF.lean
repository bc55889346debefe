import PyProof.Rows.All
import Wide.All
import OpenK.AllK
import Wide.FinOn
import HandS.ForMost
import HandS.Exc
import HandS.ExcOwn
import HandS.TryOnly
import HandS.WordsExc
import HandS.IsInst
import HandS.TupAny
import HandS.Wide
import HandS.TryMany
import KE.DataCmp
import KE.SortData
import HandS.Deep
import HandS.TupSets
import HandS.Zip
import HandS.Strs
import HandS.HotCalls
import HandS.ExcIs
import PySem.Challenge.RW_looksfar_k01_check_task
set_option Elab.async false
set_option linter.all false
set_option maxRecDepth 100000
set_option maxHeartbeats 400000
/-! ### defs that are called where no repr runs around (guards known to be none) -/
namespace LG
open PySem PySem.Spec PyProof.Rows L2
/-- a def's promise, kept wherever no repr is under way -/
structure FnG (P : Program) (w : World) (K : PySem.W.Frag) (mg : Str → Option Value) (base : Heap) (k : Nat) (f : Addr) (fd : FuncData) (ps : List Str) (sp : Sp) : Prop where
  many : ∀ vs H Q E, sp vs H Q E → vs.length = ps.length
  goes : ∀ (A : Around) (outer : List Env) (s : Shared) (H : Hp) (us : List Value) (vs : List V) (Q : VK) (E : XK), A.guards = some [] → Room k A → Env0 P w K mg base A outer s H →
    BindsTo s fd ⟨us, []⟩ (ps.zip us) → Vals vs us → sp vs H Q E → codeAny (model P w) A (.call (.ref f) ⟨us, []⟩) (CR CX0 outer P w H s Q E) s
section
variable {P : Program} {w : World} {K : PySem.W.Frag} {mg : Str → Option Value} {base : Heap}
theorem FnG.of {k : Nat} {f : Addr} {fd : FuncData} {ps : List Str} {sp : Sp} (F : FnOk P w K mg base CX0 k f fd ps sp) : FnG P w K mg base k f fd ps sp :=
  ⟨F.len, fun A outer s H us vs Q E _ hr e0 hb r h => F.run A outer s H ⟨us, []⟩ us vs Q E hr e0 hb r h⟩
theorem FnG.more {j k : Nat} {f : Addr} {fd : FuncData} {ps : List Str} {sp : Sp} (F : FnG P w K mg base j f fd ps sp) (h : j ≤ k) : FnG P w K mg base k f fd ps sp :=
  ⟨F.many, fun A outer s H us vs Q E hg hr => F.goes A outer s H us vs Q E hg (hr.mono h)⟩
theorem FnG.by {x qual : Str} {st : Stmt} {f : Addr} {fd : FuncData} {N ps : List Str} {k : Nat} {sp : Sp} (F : Fun K x qual st f fd) (S : FnScope N ps (defScope st)) (many : ∀ vs H Q E, sp vs H Q E → vs.length = ps.length)
    (body : ∀ (cdv : Value) (A : Around) (outer : List Env) (s : Shared) (H : Hp) (vs : List V) (Q : VK) (E : XK), (A.deeper (envOfC qual (defScope st) s.heap.objs.size f cdv)).guards = some [] →
      Room k (A.deeper (envOfC qual (defScope st) s.heap.objs.size f cdv)) → sp vs H Q E →
      ∃ t, PSs (cxOf CX0 P w K mg base N qual (defScope st) f cdv A outer s H E).nox (defBody st) t ∧ t { nx := fun _ H' => Q .non H', rt := Q } (start N vs) H) : FnG P w K mg base (k + 1) f fd ps sp := by
  obtain ⟨_, _, _, _, _, _, cdv, _, _, rfl, lk, code⟩ := F.ex
  refine ⟨many, fun A outer s H us vs Q E guard room e0 bind rel hsp => ?_⟩
  have inK : K.In s.heap := e0.mod.kin.keeps fun b o e => (e0.bs b o e).1
  have noLim : s.heap.NoLimit := e0.mod.nolimit.keeps fun b o e => (e0.bs b o e).1
  obtain ⟨t, run, start⟩ := body cdv A outer s H vs Q E guard (room.deeper _) hsp
  refine codeAny_call_function room.depth (inK _ _ lk) rfl S.co S.gen rfl (PySem.W.codeRec_of inK code) (bind _ _ _ _ ?_)
  refine wpAny_newFunctionEnv_cells S.kind (fun y hy => ?_) fun env he s1 made => ?_
  · rcases S.par y.1 (List.of_mem_zip (show (y.1, y.2) ∈ ps.zip us from hy)).1 with q | q
    · exact Or.inl q
    · exact Or.inr ⟨q, PySem.W.cellsFrom_some _ _ _ (Or.inl q)⟩
  subst he
  refine ⟨noLim.keeps made.toInCall.keep, codeAny_func ?_⟩
  have inv := inv_start (CX := CX0) (E := E) S room.hd e0 (many _ _ _ _ hsp) rel made
  refine wpAny_mono (run.nox.run [] s1 (L2.start N vs) H _ inv start) (fun flow s' got => ?_) fun _ _ bad => bad
  cases flow with
  | ret u =>
    obtain ⟨v, _, H', J, rv, q⟩ := got
    exact ⟨v, H', J.os, J.bare, J.base, J.hok, rv, q⟩
  | next =>
    obtain ⟨_, H', J, q⟩ := got
    exact ⟨V.non, H', J.os, J.bare, J.base, J.hok, rfl, q⟩
  | brk =>
    obtain ⟨_, _, _, no⟩ := got
    exact no.elim
  | cont =>
    obtain ⟨_, _, _, no⟩ := got
    exact no.elim
end
section
variable {X : Cx} {k : Nat} {f : Addr} {fd : FuncData} {ps : List Str} {sp : Sp} {x : Str} {p pos : Pos} {e : Expr} {es : List Expr} {t : TA}
/-- f(e, ..) of such a def -/
theorem pe_callG (F : FnG X.prog X.w X.K X.mg X.base k f fd ps sp) (guard : X.A.guards = some []) (room : Room k X.A) (hg : Gl X x) (hm : X.mg x = some (.ref f)) (hk : PySem.W.keepIn X.K (.ref f) = true) (hb : Binds X.K fd ps [])
    (ha : PA X (e :: es) t) (hdb : (x == ("__debug__" : Str)) = false := by decide) (he : starEach (e :: es) X.env = (false, eval e X.env) :: starEach es X.env := by rfl) (hpl : (backTo pos (starEach es X.env)).any (·.1) = false := by rfl) :
    PE X (.Call (.Name x p) (e :: es) [] pos) (tCall sp [] E0 t) := by
  constructor
  intro pins s σ H Q inv want
  refine wpAny_Call_Name_kw (ld_glob inv hg hm ?_ hdb)
  refine PySem.W.callWith_K (h₀ := X.base) inv.ok.mod.kin hk (thn (ha.run pos pins s σ H _ inv want) fun us s1 got => ?_) he hpl
  obtain ⟨vs, H1, inv1, rel, q⟩ := got
  rw [List.append_nil] at q
  have many : us.length = ps.length := by rw [← rel.length]; exact F.many _ _ _ _ q
  have bind := hb s1 us inv1.kIn (by rw [List.append_nil]; exact many)
  rw [List.append_nil] at bind
  refine ⟨inv1.kIn, wpAny_call (codeAny_mono (F.goes X.A X.stack s1 H1 us vs Q E0 guard room inv1.env0 bind rel q) fun r s' end_ => ?_)⟩
  cases r with
  | error _ => exact False.elim end_
  | ok flow =>
    cases flow with
    | ret _ => exact inv1.after end_
    | next => exact False.elim end_
    | brk => exact False.elim end_
    | cont => exact False.elim end_
end
/-! ### repr of data -/
section
variable {X : Cx}
/-- repr(v), v data of any depth: its text -/
def rRep (K : PySem.W.Frag) : List V → Hp → VK → Prop := fun xs H Q => ∃ (v : V) (d : PyData), xs = [v] ∧ Dp K H v d ∧ d.showable = true ∧ d.depth ≤ 60 ∧ d.shown.length ≤ sizeLine ∧ Q (.str d.shown) H
theorem Dp.noDict {K : PySem.W.Frag} {H : Hp} : ∀ (d : PyData) (v : V), Dp K H v d → d.hasDict = false
  | .none, _, _ => by simp only [PyData.hasDict]
  | .bool _, _, _ => by simp only [PyData.hasDict]
  | .int _, _, _ => by simp only [PyData.hasDict]
  | .str _, _, _ => by simp only [PyData.hasDict]
  | .dict _, _, h => by cases h
  | .list ds, _, h => by
    cases h with
    | lst _ ha =>
      simp only [PyData.hasDict]
      exact go ds _ ha
  | .tuple ds, _, h => by
    cases h with
    | tup _ ha =>
      simp only [PyData.hasDict]
      exact go ds _ ha
where go {K : PySem.W.Frag} {H : Hp} : ∀ (ds : List PyData) (vs : List V), DpAll K H vs ds → PyData.hasDictAll ds = false
  | [], _, _ => by simp only [PyData.hasDictAll]
  | d :: ds, _, h => by
    cases h with
    | cons h1 h2 => simp only [PyData.hasDictAll, Dp.noDict d _ h1, go ds _ h2, Bool.or_self]
theorem call_rep (guard : X.A.guards = some []) (room : X.A.units + 64 < cLine) : CallR X (.builtin "repr") (rRep X.K) := by
  intro pins s σ H xs us Q inv rel want
  obtain ⟨v, d, rfl, hd, hs, hn, hz, q⟩ := want
  cases rel with
  | cons r0 rr =>
  rename_i u us'
  cases rr
  obtain ⟨as, reads⟩ := Dp.reads inv d v u hd r0
  have dict := PyData.noDict_hsm (as := as) (Dp.noDict d v hd)
  cases hd with
  | non =>
    cases r0
    exact PySem.P.repr_of_none ⟨.str _, H, inv.tok _, ⟨_, rfl⟩, by simpa only [PyData.shown] using q⟩
  | bl b =>
    cases r0
    refine PySem.P.repr_of_bool ⟨.str _, H, inv.tok _, ⟨_, rfl⟩, by simpa only [PyData.shown] using q⟩
  | int i =>
    obtain ⟨t, rfl⟩ := r0
    exact PySem.P.repr_of_int (by simpa [PyData.showable] using hs) ⟨.str _, H, inv.tok _, ⟨_, rfl⟩, by simpa only [PyData.shown] using q⟩
  | str x =>
    obtain ⟨t, rfl⟩ := r0
    exact PySem.P.repr_of_str ⟨.str _, H, inv.tok _, ⟨_, rfl⟩, by simpa only [PyData.shown] using q⟩ (by simpa only [PyData.shown] using hz)
  | lst h1 h2 =>
    cases r0
    exact repr_of_reads' reads hs dict guard (by omega) (fun _ _ z => z) (fun h' u' tk keep => ⟨.str _, H, inv.kept keep, ⟨_, rfl⟩, q⟩) hz
  | tup h1 h2 =>
    cases r0
    exact repr_of_reads' reads hs dict guard (by omega) (fun _ _ z => z) (fun h' u' tk keep => ⟨.str _, H, inv.kept keep, ⟨_, rfl⟩, q⟩) hz
end
end LG
/-! ### the end: the law's promise, at the heap behind the top -/
namespace LG
open PySem PySem.W PySem.Spec PyProof.Rows L2
section
variable {P : Program} {w : World} {K : PySem.W.Frag} {mg mb : Str → Option Value} {k : Nat} {fa a : Addr} {fd : FuncData} {x : Str} {sp : Sp} {s : Shared} {vs : List Value} {ns : List Int}
/-- the call from an abstract heap that tracks at most the script -/
theorem end_from (inK : K.In s.heap) (mains : s.heap.Ns mainGlobals mg) (blts : s.heap.Ns builtinsNs mb) (boot : ∀ y : Str, y ≠ "__name__" → mb y = bootBuiltins y) (noLim : s.heap.NoLimit) (gens : s.gens = #[])
    (obj : s.heap.get? a = some { cls := .type "list", data := .seq vs.toArray }) (room : Room k callerA) (goesF : ∀ base : Heap, K.In base → base.Ns mainGlobals mg → FnG P w K mg base k fa fd [x] sp)
    (bind : ∀ (s : Shared) (u : Value), BindsTo s fd ⟨[u], []⟩ [(x, u)]) (H : Hp) (only : Only H) (held : HOk P w H s.heap) (alone : ∀ b, H b ≠ none → b = a) (away : H a ≠ none → K.lookup a = none)
    (want : sp [.ref a] H (fun v _ => v = .bl true) E0) :
    codeAny (model P w) callerA (.call (.ref fa) ⟨[.ref a], []⟩) (fun r s' => r = .ok (.ret (.bool true)) ∧ OldK s.heap s'.heap ∧ s'.os = s.os ∧ AllBare s'.gens) s := by
  have free : ∀ {b : Addr} {o : Obj}, s.heap.get? b = some o → (b = a → o ≠ { cls := .type "list", data := .seq vs.toArray }) → H b = none := fun {b o} e far => by
    cases q : H b with
    | none => rfl
    | some u =>
      have here : b = a := alone b (by rw [q]; exact nofun)
      refine absurd ?_ (far here)
      rw [here, obj] at e
      exact (Option.some.inj e).symm
  have space : ∀ {b : Addr} {m : Str → Option Value}, s.heap.Ns b m → (hidT s.heap H).Ns b m := fun {b m} ⟨o, es, ep, e, d, more⟩ =>
    ⟨o, es, ep, hidT_get e (free e fun _ same => by rw [same] at d; exact nomatch d), d, more⟩
  have baseK : K.In (hidT s.heap H) := fun b o e => hidT_get (inK b o e) (by
    cases q : H b with
    | none => rfl
    | some u =>
      have here : b = a := alone b (by rw [q]; exact nofun)
      have no := away (by rw [← here, q]; exact nofun)
      rw [here, no] at e
      exact nomatch e)
  have lim : (hidT s.heap H).NoLimit := by
    obtain ⟨mc, h1, h2⟩ := noLim
    exact ⟨mc, space h1, h2⟩
  have modu : Mod K mg (hidT s.heap H) := ⟨baseK, space mains, ⟨mb, space blts, boot⟩, lim⟩
  have e0 : Env0 P w K mg (hidT s.heap H) callerA [] s H := ⟨rfl, modu, fun _ _ e => of_hidT e, Nat.le_of_eq (hidT_size _ _), trivial, (fun _ hb => absurd (show _ ∈ ([] : List Addr) from hb) List.not_mem_nil), held, .of_eq gens⟩
  refine codeAny_mono ((goesF _ baseK (space mains)).goes callerA [] s H [.ref a] [.ref a] _ E0 rfl room e0 (bind s (.ref a)) (.cons rfl .nil) want) fun r s' got => ?_
  cases r with
  | error _ => exact False.elim got
  | ok flow =>
  cases flow with
  | next => exact False.elim got
  | brk => exact False.elim got
  | cont => exact False.elim got
  | ret u =>
    obtain ⟨v, H', sameOs, bare, un, held', rel, yes⟩ := got
    have yes' : v = .bl true := yes
    subst yes'
    obtain rfl : u = Value.bool true := rel
    refine ⟨rfl, OldK.of_keep fun b o e => ?_, sameOs, bare⟩
    rcases only b with free | ⟨ob, xs, fz⟩
    · exact un.keep b o e free (fun z => nomatch z) (fun z => nomatch z)
    · obtain ⟨e1, _⟩ := held b _ fz
      obtain ⟨e2, _⟩ := held' b _ (un.frzs b ob _ fz)
      rw [e2, ← e1, e]
/-- .. from the script as it lies -/
theorem end_call (inK : K.In s.heap) (mains : s.heap.Ns mainGlobals mg) (blts : s.heap.Ns builtinsNs mb) (boot : ∀ y : Str, y ≠ "__name__" → mb y = bootBuiltins y) (noLim : s.heap.NoLimit) (gens : s.gens = #[])
    (obj : s.heap.get? a = some { cls := .type "list", data := .seq vs.toArray }) (numbs : PyProof.Rows.IntsAre vs ns) (small : ns.length ≤ sizeLine) (room : Room k callerA)
    (goesF : ∀ base : Heap, K.In base → base.Ns mainGlobals mg → FnG P w K mg base k fa fd [x] sp) (bind : ∀ (s : Shared) (u : Value), BindsTo s fd ⟨[u], []⟩ [(x, u)])
    (want : ∀ H : Hp, Only H → SqL K H a (ns.map V.int) → sp [.ref a] H (fun v _ => v = .bl true) E0) :
    codeAny (model P w) callerA (.call (.ref fa) ⟨[.ref a], []⟩) (fun r s' => r = .ok (.ret (.bool true)) ∧ OldK s.heap s'.heap ∧ s'.os = s.os ∧ AllBare s'.gens) s := by
  have rel := vals_ints numbs
  cases hk : K.lookup a with
  | some o =>
    have e := inK a o hk
    rw [obj] at e
    obtain rfl := Option.some.inj e
    have only : Only fun _ => none := fun _ => Or.inl rfl
    have held : HOk P w (fun _ => none) s.heap := fun _ _ z => nomatch z
    refine end_from inK mains blts boot noLim gens obj room goesF bind (fun _ => none) only held (fun _ z => absurd rfl z) (fun z => absurd rfl z) (want _ only ?_)
    exact Or.inr ⟨_, vs.toArray, _, hk, rfl, rfl, rfl, by rw [List.size_toArray, numbs.length]; exact small, by simpa using rel⟩
  | none =>
    let one : Hp := upd (fun _ => none) a (.frz { cls := .type "list", data := .seq vs.toArray } (.lst (ns.map V.int)))
    have at_a : one a = some (.frz { cls := .type "list", data := .seq vs.toArray } (.lst (ns.map V.int))) := upd_same
    have off_a : ∀ b, b ≠ a → one b = none := fun b hb => upd_ne hb
    have only : Only one := fun b => by
      by_cases hb : b = a
      · subst hb
        exact Or.inr ⟨_, _, at_a⟩
      · exact Or.inl (off_a b hb)
    have held : HOk P w one s.heap := fun b u z => by
      by_cases hb : b = a
      · subst hb
        rw [at_a] at z
        obtain rfl := Option.some.inj z
        exact ⟨obj, by rw [List.length_map]; exact small, vs, _, rel, obj⟩
      · rw [off_a b hb] at z
        exact nomatch z
    exact end_from inK mains blts boot noLim gens obj room goesF bind one only held (fun b z => Classical.byContradiction fun hb => z (off_a b hb)) (fun _ => hk) (want _ only (.inl (.inr ⟨_, at_a⟩)))
end
/-- what is left of the statement behind the head -/
theorem walk_G {l : PySem.W.OpenLaw} {n k : Nat} {q : Program} {loose : List Str} {XP : (Str → Option Value) → Heap → Prop} {YP : World → Heap → Prop} {d : DefRec} {K : Params → PySem.W.Frag} {sp : PySem.W.Frag → Sp} {x : Str}
    (hn : l.most = some n) (small : n ≤ sizeLine) (plain : d.params.defaults = []) (room : Room k callerA) (hY : ∀ (w : World) (h : Heap), YP w h → (K w.params).In h)
    (F : ∀ (w : World) (mg : Str → Option Value) (fa : Addr) (h : Heap), (K w.params).In h → h.Ns mainGlobals mg → mg d.name = some (.ref fa) →
      ∃ fd : FuncData, (∀ (s : Shared) (u : Value), BindsTo s fd ⟨[u], []⟩ [(x, u)]) ∧ ∀ base : Heap, (K w.params).In base → base.Ns mainGlobals mg → FnG l.prog w (K w.params) mg base k fa fd [x] (sp (K w.params)))
    (want : ∀ (K : PySem.W.Frag) (H : Hp) (a : Addr) (ns : List Int), ns.length ≤ n → Only H → SqL K H a (ns.map V.int) → sp K [.ref a] H (fun v _ => v = .bl true) E0) :
    PySem.W.WalkO q loose XP YP l.row.toRowW d [] (fun f vs => PySem.call f vs) := by
  refine Att.attach_call hn plain fun w s0 s1 mg mb fa o pm cd doc a vs ns ground told ho hd hcd hmg obj numbs many gens => ?_
  have inK := hY w _ told
  obtain ⟨fd, bind, goesF⟩ := F w mg fa _ inK ground.T.g hmg
  exact end_call inK ground.T.g ground.T.b ground.T.builtins ground.T.nolimit gens obj numbs (Nat.le_trans many small) room goesF bind fun H only held => want (K w.params) H a ns many only held
end LG
/-! ### sizes of data, data of tuples, heaps -/
namespace LG
open PySem PySem.Spec PyProof.Rows L2
/-- data whose text is short: at most m parts, h deep -/
def Sized (m h : Nat) (d : PyData) : Prop := d.leavesShort 40 = true ∧ d.showable = true ∧ d.depth ≤ h ∧ d.bulk ≤ m
theorem Sized.more {m m' h h' : Nat} {d : PyData} (s : Sized m h d) (hm : m ≤ m') (hh : h ≤ h') : Sized m' h' d := ⟨s.1, s.2.1, Nat.le_trans s.2.2.1 hh, Nat.le_trans s.2.2.2 hm⟩
theorem sized_all {m h : Nat} : ∀ {ds : List PyData}, (∀ d ∈ ds, Sized m h d) → PyData.leavesShortAll 40 ds = true ∧ PyData.showableAll ds = true ∧ PyData.depthAll ds ≤ h ∧ PyData.bulkAll ds ≤ ds.length * (m + 1)
  | [], _ => ⟨by simp only [PyData.leavesShortAll], by simp only [PyData.showableAll], by simp only [PyData.depthAll]; omega, by simp only [PyData.bulkAll]; omega⟩
  | d :: ds, hd => by
    obtain ⟨a1, a2, a3, a4⟩ := hd d List.mem_cons_self
    obtain ⟨b1, b2, b3, b4⟩ := sized_all fun e he => hd e (List.mem_cons_of_mem _ he)
    refine ⟨by simp only [PyData.leavesShortAll, a1, b1, Bool.and_self], by simp only [PyData.showableAll, a2, b2, Bool.and_self], by simp only [PyData.depthAll]; omega, ?_⟩
    simp only [PyData.bulkAll, List.length_cons, Nat.add_mul, Nat.one_mul] at b4 ⊢
    omega
theorem sized_tup {m h : Nat} {ds : List PyData} (hd : ∀ d ∈ ds, Sized m h d) : Sized (ds.length * (m + 1)) (h + 1) (.tuple ds) := by
  obtain ⟨a1, a2, a3, a4⟩ := sized_all hd
  exact ⟨by simpa only [PyData.leavesShort] using a1, by simpa only [PyData.showable] using a2, by simp only [PyData.depth]; omega, by simpa only [PyData.bulk] using a4⟩
theorem sized_lst {m h : Nat} {ds : List PyData} (hd : ∀ d ∈ ds, Sized m h d) : Sized (ds.length * (m + 1)) (h + 1) (.list ds) := by
  obtain ⟨a1, a2, a3, a4⟩ := sized_all hd
  exact ⟨by simpa only [PyData.leavesShort] using a1, by simpa only [PyData.showable] using a2, by simp only [PyData.depth]; omega, by simpa only [PyData.bulk] using a4⟩
theorem sized_non : Sized 0 0 .none := ⟨by simp only [PyData.leavesShort], by simp only [PyData.showable], by simp only [PyData.depth]; omega, by simp only [PyData.bulk]; omega⟩
theorem sized_bl (b : Bool) : Sized 0 0 (.bool b) := ⟨by simp only [PyData.leavesShort], by simp only [PyData.showable], by simp only [PyData.depth]; omega, by simp only [PyData.bulk]; omega⟩
/-- an int of few digits -/
theorem sized_int {i : Int} (h : i.natAbs < 10 ^ 39) : Sized 0 0 (.int i) := by
  have short : (PyData.shown (.int i)).length ≤ 40 := by
    simp only [PyData.shown]
    show (Str.ofString (toString i)).length ≤ 40
    rw [PySem.ofString_length]
    exact int_text_length_le10 (by decide) h
  refine ⟨by simpa only [PyData.leavesShort, decide_eq_true_eq] using short, ?_, by simp only [PyData.depth]; omega, by simp only [PyData.bulk]; omega⟩
  simp only [PyData.showable, decide_eq_true_eq]
  by_cases z : i.natAbs = 0
  · rw [z]; decide
  · exact Nat.lt_of_lt_of_le ((Nat.log2_lt z).mpr (Nat.lt_of_lt_of_le h (by decide : 10 ^ 39 ≤ 2 ^ 130))) (by decide)
/-- what repr asks -/
theorem Sized.rep {m h : Nat} {d : PyData} (s : Sized m h d) (hm : m ≤ 390000) (hh : h ≤ 60) : d.showable = true ∧ d.depth ≤ 60 ∧ d.shown.length ≤ sizeLine := by
  refine ⟨s.2.1, Nat.le_trans s.2.2.1 hh, ?_⟩
  have z := PyData.shown_le_bulk 40 (by decide) d s.1
  have z2 := s.2.2.2
  rw [sizeLine_eq]
  omega
/-- tuples stay -/
def TupsStay (H H' : Hp) : Prop := ∀ b o, (∃ xs, o = .tup xs) ∨ (∃ ob xs, o = .frz ob (.tup xs)) → H b = some o → H' b = some o
theorem TupsStay.trans {H H1 H2 : Hp} (a : TupsStay H H1) (b : TupsStay H1 H2) : TupsStay H H2 := fun c o h e => b c o h (a c o h e)
theorem TupsStay.refl (H : Hp) : TupsStay H H := fun _ _ _ e => e
theorem _root_.L2.Same.tups {H H' : Hp} (s : Same H H') : TupsStay H H' := fun b o _ e => s b o e
theorem TupsStay.seq {K : PySem.W.Frag} {H H' : Hp} {a : Addr} {xs : List V} (t : TupsStay H H') (h : SqT K H a xs) : SqT K H' a xs := by
  rcases h with (h | ⟨o, h⟩) | h
  · exact .inl (.inl (t _ _ (.inl ⟨_, rfl⟩) h))
  · exact .inl (.inr ⟨o, t _ _ (.inr ⟨_, _, rfl⟩) h⟩)
  · exact .inr h
theorem _root_.L2.Same.seqT {K : PySem.W.Frag} {H H' : Hp} {a : Addr} {xs : List V} (s : Same H H') (h : SqT K H a xs) : SqT K H' a xs := (Same.tups s).seq h
theorem tups_lst {H : Hp} {p : Addr} {xs ys : List V} (h : H p = some (.lst xs)) : TupsStay H (upd H p (.lst ys)) := fun b o hk e => by
  rw [upd_ne (ne_of e h ?_)]
  · exact e
  · rcases hk with ⟨_, rfl⟩ | ⟨_, _, rfl⟩ <;> exact nofun
theorem same_new {H : Hp} {p : Addr} (h : H p = none) (o : HO) : Same H (upd H p o) := fun b u e => by
  rw [upd_ne (ne_of_none e h)]
  exact e
/-- a list that was made since changes -/
theorem same_own {H H' : Hp} {p : Addr} (s : Same H H') (h : H p = none) (o : HO) : Same H (upd H' p o) := fun b u e => by
  rw [upd_ne (ne_of_none e h)]
  exact s b u e
mutual
/-- data without lists -/
inductive Dt (K : PySem.W.Frag) (H : Hp) : V → PyData → Prop
  | non : Dt K H .non .none
  | bl (b : Bool) : Dt K H (.bl b) (.bool b)
  | int (i : Int) : Dt K H (.int i) (.int i)
  | str (x : Str) : Dt K H (.str x) (.str x)
  | tup {a : Addr} {xs : List V} {ds : List PyData} : SqT K H a xs → DtAll K H xs ds → Dt K H (.ref a) (.tuple ds)
inductive DtAll (K : PySem.W.Frag) (H : Hp) : List V → List PyData → Prop
  | nil : DtAll K H [] []
  | cons {v : V} {vs : List V} {d : PyData} {ds : List PyData} : Dt K H v d → DtAll K H vs ds → DtAll K H (v :: vs) (d :: ds)
end
section
variable {K : PySem.W.Frag} {H H' : Hp}
mutual
theorem Dt.dp : ∀ {v : V} {d : PyData}, Dt K H v d → Dp K H v d
  | _, _, .non => .non
  | _, _, .bl b => .bl b
  | _, _, .int i => .int i
  | _, _, .str x => .str x
  | _, _, .tup h a => .tup h a.dp
theorem DtAll.dp : ∀ {vs : List V} {ds : List PyData}, DtAll K H vs ds → DpAll K H vs ds
  | _, _, .nil => .nil
  | _, _, .cons h a => .cons h.dp a.dp
end
mutual
theorem Dt.stay (t : TupsStay H H') : ∀ {v : V} {d : PyData}, Dt K H v d → Dt K H' v d
  | _, _, .non => .non
  | _, _, .bl b => .bl b
  | _, _, .int i => .int i
  | _, _, .str x => .str x
  | _, _, .tup h a => .tup (t.seq h) (a.stay t)
theorem DtAll.stay (t : TupsStay H H') : ∀ {vs : List V} {ds : List PyData}, DtAll K H vs ds → DtAll K H' vs ds
  | _, _, .nil => .nil
  | _, _, .cons h a => .cons (h.stay t) (a.stay t)
end
theorem DtAll.len : ∀ {vs : List V} {ds : List PyData}, DtAll K H vs ds → vs.length = ds.length
  | _, _, .nil => rfl
  | _, _, .cons _ a => by rw [List.length_cons, List.length_cons, a.len]
theorem DtAll.at : ∀ {vs : List V} {ds : List PyData} {i : Nat} {d : PyData}, DtAll K H vs ds → ds[i]? = some d → ∃ v, vs[i]? = some v ∧ Dt K H v d
  | _, _, _, _, .nil, e => by simp at e
  | _, _, 0, _, .cons h _, e => by simp at e; subst e; exact ⟨_, rfl, h⟩
  | _, _, i + 1, d, .cons _ a, e => by simpa using a.at (i := i) (by simpa using e)
theorem DtAll.of : ∀ {vs : List V} {ds : List PyData} {i : Nat} {v : V}, DtAll K H vs ds → vs[i]? = some v → ∃ d, ds[i]? = some d ∧ Dt K H v d
  | _, _, _, _, .nil, e => by simp at e
  | _, _, 0, _, .cons h _, e => by simp at e; subst e; exact ⟨_, rfl, h⟩
  | _, _, i + 1, d, .cons _ a, e => by simpa using a.of (i := i) (by simpa using e)
theorem DtAll.app : ∀ {vs ws : List V} {ds es : List PyData}, DtAll K H vs ds → DtAll K H ws es → DtAll K H (vs ++ ws) (ds ++ es)
  | _, _, _, _, .nil, b => b
  | _, _, _, _, .cons h a, b => .cons h (a.app b)
theorem DtAll.take : ∀ {vs : List V} {ds : List PyData} (n : Nat), DtAll K H vs ds → DtAll K H (vs.take n) (ds.take n)
  | _, _, 0, _ => .nil
  | _, _, _ + 1, .nil => .nil
  | _, _, n + 1, .cons h a => .cons h (a.take n)
theorem DtAll.drop : ∀ {vs : List V} {ds : List PyData} (n : Nat), DtAll K H vs ds → DtAll K H (vs.drop n) (ds.drop n)
  | _, _, 0, a => a
  | _, _, _ + 1, .nil => .nil
  | _, _, n + 1, .cons _ a => a.drop n
theorem DtAll.ints : ∀ (ns : List Int), DtAll K H (ns.map V.int) (ns.map PyData.int)
  | [] => .nil
  | n :: ns => .cons (.int n) (DtAll.ints ns)
theorem item_of {ns : List Int} {i : Nat} {y : V} (hi : (ns.map V.int)[i]? = some y) : ∃ z, ns[i]? = some z ∧ y = V.int z := by
  rw [List.getElem?_map] at hi
  cases e : ns[i]? with
  | none => rw [e] at hi; cases hi
  | some z => rw [e] at hi; exact ⟨z, rfl, (Option.some.inj hi).symm⟩
theorem take_more {α : Type} : ∀ {l : List α} {i : Nat} {x : α}, l[i]? = some x → l.take (i + 1) = l.take i ++ [x]
  | [], i, x, h => by simp at h
  | a :: l, 0, x, h => by simp at h; simp [h]
  | a :: l, i + 1, x, h => by
    have ih := take_more (l := l) (i := i) (x := x) (by simpa using h)
    simp [ih]
end
end LG
/-! ### a def of the text with its promise, by its name -/
namespace LG
open PySem PySem.Spec PyProof.Rows L2
/-- the def of this name, the place hidden -/
structure Has (P : Program) (w : World) (K : PySem.W.Frag) (mg : Str → Option Value) (base : Heap) (CX : CXT) (k : Nat) (x : Str) (ps : List Str) (sp : Sp) : Prop where
  ex : ∃ (f : Addr) (fd : FuncData), FnOk P w K mg base CX k f fd ps sp ∧ mg x = some (.ref f) ∧ PySem.W.keepIn K (.ref f) = true ∧ Binds K fd ps []
structure HasG (P : Program) (w : World) (K : PySem.W.Frag) (mg : Str → Option Value) (base : Heap) (k : Nat) (x : Str) (ps : List Str) (sp : Sp) : Prop where
  ex : ∃ (f : Addr) (fd : FuncData), FnG P w K mg base k f fd ps sp ∧ mg x = some (.ref f) ∧ PySem.W.keepIn K (.ref f) = true ∧ Binds K fd ps []
/-- the def as the top has left it -/
structure Def (K : PySem.W.Frag) (mg : Str → Option Value) (x : Str) (st : Stmt) (ps : List Str) : Prop where
  ex : ∃ (f : Addr) (fd : FuncData), Fun K x x st f fd ∧ mg x = some (.ref f) ∧ Binds K fd ps []
section
variable {P : Program} {w : World} {K : PySem.W.Frag} {mg : Str → Option Value} {base : Heap} {CX : CXT} {k : Nat} {x : Str} {ps : List Str} {sp : Sp} {st : Stmt}
theorem Def.has (d : Def K mg x st ps) (h : ∀ (f : Addr) (fd : FuncData), Fun K x x st f fd → FnOk P w K mg base CX k f fd ps sp) : Has P w K mg base CX k x ps sp := by
  obtain ⟨f, fd, F, m, b⟩ := d.ex
  exact ⟨f, fd, h f fd F, m, F.kp, b⟩
theorem Def.hasG (d : Def K mg x st ps) (h : ∀ (f : Addr) (fd : FuncData), Fun K x x st f fd → FnG P w K mg base k f fd ps sp) : HasG P w K mg base k x ps sp := by
  obtain ⟨f, fd, F, m, b⟩ := d.ex
  exact ⟨f, fd, h f fd F, m, F.kp, b⟩
theorem Has.more {j : Nat} (h : Has P w K mg base CX k x ps sp) (hj : k ≤ j) : Has P w K mg base CX j x ps sp := by
  obtain ⟨f, fd, F, r⟩ := h.ex
  exact ⟨f, fd, F.mono hj, r⟩
theorem Has.imp {sp' : Sp} (h : Has P w K mg base CX k x ps sp) (i : ∀ vs H Q E, sp' vs H Q E → sp vs H Q E) : Has P w K mg base CX k x ps sp' := by
  obtain ⟨f, fd, F, r⟩ := h.ex
  exact ⟨f, fd, F.imp i, r⟩
end
section
variable {X : Cx} {k j : Nat} {ps : List Str} {sp : Sp} {x : Str} {p pos : Pos} {e : Expr} {es : List Expr} {t : TA}
/-- its call: nothing is raised -/
theorem pc (h : Has X.prog X.w X.K X.mg X.base CX0 k x ps sp) (hr : Room j X.A) (ha : PA X (e :: es) t) (hg : Gl X x := by rfl) (hj : k ≤ j := by first | decide | omega) (hdb : (x == ("__debug__" : Str)) = false := by decide)
    (he : starEach (e :: es) X.env = (false, eval e X.env) :: starEach es X.env := by rfl) (hpl : (backTo pos (starEach es X.env)).any (·.1) = false := by rfl) : PE X (.Call (.Name x p) (e :: es) [] pos) (tCall sp [] E0 t) := by
  obtain ⟨f, fd, F, m, kp, b⟩ := h.ex
  exact pe_call F (hr.mono hj) hg m kp b .nil pass0 ha hdb he hpl
theorem pcX (h : Has X.prog X.w X.K X.mg X.base (L2.CX X.prog X.w) k x ps sp) (hr : Room j X.A) (ha : PA X (e :: es) t) (hg : Gl X x := by rfl) (hj : k ≤ j := by first | decide | omega) (hdb : (x == ("__debug__" : Str)) = false := by decide)
    (he : starEach (e :: es) X.env = (false, eval e X.env) :: starEach es X.env := by rfl) (hpl : (backTo pos (starEach es X.env)).any (·.1) = false := by rfl) : PE X (.Call (.Name x p) (e :: es) [] pos) (tCall sp [] E0 t) := by
  obtain ⟨f, fd, F, m, kp, b⟩ := h.ex
  exact pe_call F (hr.mono hj) hg m kp b .nil passL ha hdb he hpl
theorem pcG (h : HasG X.prog X.w X.K X.mg X.base k x ps sp) (guard : X.A.guards = some []) (hr : Room j X.A) (ha : PA X (e :: es) t) (hg : Gl X x := by rfl) (hj : k ≤ j := by first | decide | omega) (hdb : (x == ("__debug__" : Str)) = false := by decide)
    (he : starEach (e :: es) X.env = (false, eval e X.env) :: starEach es X.env := by rfl) (hpl : (backTo pos (starEach es X.env)).any (·.1) = false := by rfl) : PE X (.Call (.Name x p) (e :: es) [] pos) (tCall sp [] E0 t) := by
  obtain ⟨f, fd, F, m, kp, b⟩ := h.ex
  exact pe_callG F guard (hr.mono hj) hg m kp b ha hdb he hpl
/-- its call: what it raises leaves this def too -/
theorem pcE {E : XK} (h : Has X.prog X.w X.K X.mg X.base (L2.CX X.prog X.w) k x ps sp) (hr : Room j X.A) (tk : Takes X (fun cls d _ H => E cls d H)) (ha : PA X (e :: es) t) (hg : Gl X x := by rfl) (hj : k ≤ j := by first | decide | omega) (hdb : (x == ("__debug__" : Str)) = false := by decide)
    (he : starEach (e :: es) X.env = (false, eval e X.env) :: starEach es X.env := by rfl) (hpl : (backTo pos (starEach es X.env)).any (·.1) = false := by rfl) : PE X (.Call (.Name x p) (e :: es) [] pos) (tCall sp [] E t) := by
  obtain ⟨f, fd, F, m, kp, b⟩ := h.ex
  exact pe_call F (hr.mono hj) hg m kp b .nil (passes_call tk fun _ _ _ _ z => z) ha hdb he hpl
/-- its call within a try's body: what it raises is wished for -/
theorem pcS {W : WX} (h : Has X.prog X.w X.K X.mg X.base (L2.CX X.prog X.w) k x ps sp) (hr : Room j X.A) (tk : Takes X W) (ha : PA X (e :: es) t) (hg : Gl X x := by rfl) (hj : k ≤ j := by first | decide | omega) (hdb : (x == ("__debug__" : Str)) = false := by decide)
    (he : starEach (e :: es) X.env = (false, eval e X.env) :: starEach es X.env := by rfl) (hpl : (backTo pos (starEach es X.env)).any (·.1) = false := by rfl) : PE X (.Call (.Name x p) (e :: es) [] pos) (tCallS sp (WE W) t) := by
  obtain ⟨f, fd, F, m, kp, b⟩ := h.ex
  exact pe_callS F (hr.mono hj) hg m kp b (fun σ => passAt tk σ) ha hdb he hpl
end
/-! ### places in lists of ints -/
theorem ix_of {n : Nat} {i : Int} (h0 : 0 ≤ i) (h1 : i < n) : ixN n i = some i.toNat := by
  unfold ixN
  rw [if_pos h0, if_pos h1]
theorem at_int {ns : List Int} {i : Int} (h0 : 0 ≤ i) (h1 : i < ns.length) : ∃ z, ns[i.toNat]? = some z ∧ z ∈ ns ∧ atI (ns.map V.int) i = some (.int z) := by
  have lt : i.toNat < ns.length := by omega
  refine ⟨ns[i.toNat], by simp, List.getElem_mem _, ?_⟩
  refine at_of (j := i.toNat) (by omega) ?_
  rw [List.getElem?_map]
  simp
theorem dec_t {p : Prop} [Decidable p] (h : decide p = true) : p := of_decide_eq_true h
theorem dec_f {p : Prop} [Decidable p] (h : ¬ decide p = true) : ¬ p := fun z => h (decide_eq_true z)
end LG
namespace LG
open PySem PySem.Spec PyProof.Rows L2
section
variable {X : Cx}
/-- == and != of ints -/
theorem op_eqi : OpR X (compareOp .Eq) (rI0 fun i j => .bl (decide (i = j))) := by
  intro pins s σ H x y v u Q inv rx ry want
  obtain ⟨i, j, rfl, rfl, q⟩ := want
  refine op_eq pins s σ H _ _ v u Q inv rx ry ⟨rfl, ?_⟩
  rw [show decide (V.int i = V.int j) = decide (i = j) from decide_eq_decide.mpr ⟨fun z => V.int.inj z, fun z => congrArg V.int z⟩]
  exact q
theorem op_nei : OpR X (compareOp .NotEq) (rI0 fun i j => .bl (!decide (i = j))) := by
  intro pins s σ H x y v u Q inv rx ry want
  obtain ⟨i, j, rfl, rfl, q⟩ := want
  refine op_ne pins s σ H _ _ v u Q inv rx ry ⟨rfl, ?_⟩
  rw [show decide (V.int i = V.int j) = decide (i = j) from decide_eq_decide.mpr ⟨fun z => V.int.inj z, fun z => congrArg V.int z⟩]
  exact q
/-- == and != of texts -/
theorem op_eqs : OpR X (compareOp .Eq) (fun x y H Q => ∃ a b, x = .str a ∧ y = .str b ∧ Q (.bl (decide (a = b))) H) := by
  intro pins s σ H x y v u Q inv rx ry want
  obtain ⟨i, j, rfl, rfl, q⟩ := want
  refine op_eq pins s σ H _ _ v u Q inv rx ry ⟨rfl, ?_⟩
  rw [show decide (V.str i = V.str j) = decide (i = j) from decide_eq_decide.mpr ⟨fun z => V.str.inj z, fun z => congrArg V.str z⟩]
  exact q
theorem op_nes : OpR X (compareOp .NotEq) (fun x y H Q => ∃ a b, x = .str a ∧ y = .str b ∧ Q (.bl (!decide (a = b))) H) := by
  intro pins s σ H x y v u Q inv rx ry want
  obtain ⟨i, j, rfl, rfl, q⟩ := want
  refine op_ne pins s σ H _ _ v u Q inv rx ry ⟨rfl, ?_⟩
  rw [show decide (V.str i = V.str j) = decide (i = j) from decide_eq_decide.mpr ⟨fun z => V.str.inj z, fun z => congrArg V.str z⟩]
  exact q
end
/-! ### parts of tuples -/
theorem cut_last (xs : List V) (v : V) : cutV (xs ++ [v]) none (some (-1)) = xs := by
  unfold cutV HT.sIx
  simp only [List.length_append, List.length_singleton]
  rw [if_pos (by decide)]
  rw [List.drop_zero, show ((-1 + ((xs.length + 1 : Nat) : Int)).toNat - 0) = xs.length from by omega]
  simp
theorem cut_last_whole (xs : List V) (v : V) : ¬ (HT.sIx (xs ++ [v]).length 0 none = 0 ∧ HT.sIx (xs ++ [v]).length (xs ++ [v]).length (some (-1)) = (xs ++ [v]).length) := by
  unfold HT.sIx
  simp only [List.length_append, List.length_singleton]
  rw [if_pos (by decide)]
  omega
theorem cut_to (xs : List V) (n : Nat) : cutV xs none (some (n : Int)) = xs.take n := by
  unfold cutV
  rw [HT.sIx_none, HT.sIx_nat, List.drop_zero, Nat.sub_zero]
  rcases Nat.le_total n xs.length with h | h
  · rw [Nat.min_eq_left h]
  · rw [Nat.min_eq_right h, List.take_of_length_le (Nat.le_refl _), List.take_of_length_le h]
theorem cut_from (xs : List V) (n : Nat) : cutV xs (some (n : Int)) none = xs.drop n := by
  unfold cutV
  rw [HT.sIx_none, HT.sIx_nat]
  rcases Nat.le_total n xs.length with h | h
  · rw [Nat.min_eq_left h, List.take_of_length_le (by rw [List.length_drop]; exact Nat.le_refl _)]
  · rw [Nat.min_eq_right h, List.drop_of_length_le (Nat.le_refl _), List.drop_of_length_le h, List.take_nil]
/-- a slice of a tuple: the tuple itself, or a new one, of these items -/
def rCut (K : PySem.W.Frag) : V → Option Int → Option Int → Hp → VK → Prop := fun x lo hi H Q => ∃ a xs, x = .ref a ∧ SqT K H a xs ∧
  ∀ p H', Same H H' → SqT K H' p (cutV xs lo hi) → Q (.ref p) H'
theorem sl_cut {X : Cx} : SlR X (rCut X.K) := by
  intro pins s σ H x v vl vu lo hi sl Q inv rx hs pl pu want
  obtain ⟨a, xs, rfl, hx, q⟩ := want
  refine sl_tupA pins s σ H _ v vl vu lo hi sl Q inv rx hs pl pu ⟨a, xs, rfl, hx, fun whole => q a H (Same.refl H) ?_, fun _ p hp => q p _ (same_new hp _) (SqT.of upd_same)⟩
  have e : cutV xs lo hi = xs := by
    unfold cutV
    rw [whole.1, whole.2, List.drop_zero, Nat.sub_zero, List.take_of_length_le (Nat.le_refl _)]
  rw [e]
  exact hx
/-- t + u: one of the two, or a new tuple, of these items -/
def rPlus (K : PySem.W.Frag) : R2 := fun x y H Q => ∃ a b xs ys, x = .ref a ∧ y = .ref b ∧ SqT K H a xs ∧ SqT K H b ys ∧ xs.length + ys.length ≤ sizeLine ∧
  ∀ p H', Same H H' → SqT K H' p (xs ++ ys) → Q (.ref p) H'
theorem op_plus {X : Cx} : OpR X (binaryOp .Add) (rPlus X.K) := by
  intro pins s σ H x y v u Q inv rx ry want
  obtain ⟨a, b, xs, ys, rfl, rfl, ha, hb, hz, q⟩ := want
  refine op_catA pins s σ H _ _ v u Q inv rx ry ⟨a, b, xs, ys, rfl, rfl, ha, hb, hz, fun e => q b H (Same.refl H) ?_, fun _ e => q a H (Same.refl H) ?_, fun _ _ p hp => q p _ (same_new hp _) (SqT.of upd_same)⟩
  · rw [e]
    exact hb
  · rw [e, List.append_nil]
    exact ha
theorem small16 {n : Nat} (h : n ≤ 100000) : n ≤ sizeLine := Nat.le_trans h (by decide)
end LG
/-! ### error classes of the text -/
namespace LG
open PySem PySem.Spec PyProof.Rows L2
/-- the class of this name over ValueError -/
structure Err (K : PySem.W.Frag) (mg : Str → Option Value) (x : Str) (C : Addr) : Prop where
  xi : PySem.W.excIn K C [.type "ValueError", .type "Exception", .type "BaseException", .type "object"] "ValueError.__new__" = true
  g : mg x = some (.ref C)
  k : PySem.W.keepIn K (.ref C) = true
  b : PySem.W.subIn K (.ref C) (.type "BaseException") = some true
  t : PySem.W.typeIn K (.ref C) = some (.type "type")
/-- what a clause for the class at D makes of an error of the class at C -/
theorem exm_of2 {K : PySem.W.Frag} {C D : Addr} {r : Bool} (h1 : PySem.W.subIn K (.ref D) (.type "BaseException") = some true) (h2 : PySem.W.isClsIn K D = true) (h3 : PySem.W.typeIn K (.ref D) = some (.type "type")) (h4 : PySem.W.subIn K (.ref C) (.ref D) = some r) :
    PySem.W.exmOne K (.ref C) (.ref D) = some r := by
  show (if (PySem.W.subIn K (.ref D) (.type "BaseException") == some true) = true then (if (PySem.W.isClsIn K D && PySem.W.typeIn K (.ref D) == some (.type "type")) = true then PySem.W.subIn K (.ref C) (.ref D) else none) else none) = some r
  rw [h1, h2, h3, h4]
  rfl
end LG
/-! ### the hand from which the law takes its draws -/
namespace LG
open PySem PySem.Spec PyProof.Rows L2
/-- hand at h: the draws at d, how many were taken -/
def Hand (H : Hp) (h d : Addr) (ds : List Int) (n : Nat) : Prop := H h = some (.lst [.ref d, .int n]) ∧ H d = some (.lst (ds.map V.int))
section
variable {H H' : Hp} {h d : Addr} {ds : List Int} {n : Nat}
theorem Hand.ne (x : Hand H h d ds n) : d ≠ h := by
  rintro rfl
  have e := x.1.symm.trans x.2
  cases ds with
  | nil => cases e
  | cons z ds => cases e
theorem Hand.next (x : Hand H h d ds n) : Hand (upd H h (.lst [.ref d, .int ((n + 1 : Nat) : Int)])) h d ds (n + 1) := ⟨upd_same, by rw [upd_ne x.ne]; exact x.2⟩
theorem Hand.same (x : Hand H h d ds n) (s : Same H H') : Hand H' h d ds n := ⟨s _ _ x.1, s _ _ x.2⟩
theorem Hand.tups (x : Hand H h d ds n) : TupsStay H (upd H h (.lst [.ref d, .int ((n + 1 : Nat) : Int)])) := tups_lst x.1
/-- another list stays -/
theorem Hand.keep {a : Addr} {ns : List Int} (x : Hand H h d ds n) (e : H a = some (.lst (ns.map V.int))) : (upd H h (.lst [.ref d, .int ((n + 1 : Nat) : Int)])) a = some (.lst (ns.map V.int)) := by
  rw [upd_ne]
  · exact e
  rintro rfl
  have q := x.1.symm.trans e
  cases ns with
  | nil => cases q
  | cons z ns => cases q
end
end LG
/-! ### data of any kind, outside the places that may change -/
namespace LG
open PySem PySem.Spec PyProof.Rows L2
/-- what lies outside M stays, and all tuples -/
structure Go (M : Addr → Prop) (H H' : Hp) : Prop where
  out : ∀ b o, ¬ M b → H b = some o → H' b = some o
  tups : TupsStay H H'
section
variable {M : Addr → Prop} {H H1 H' : Hp} {K : PySem.W.Frag}
theorem Go.refl (H : Hp) : Go M H H := ⟨fun _ _ _ e => e, TupsStay.refl H⟩
theorem Go.trans (a : Go M H H1) (b : Go M H1 H') : Go M H H' := ⟨fun c o m e => b.out c o m (a.out c o m e), a.tups.trans b.tups⟩
theorem _root_.L2.Same.go (s : Same H H') : Go M H H' := ⟨fun b o _ e => s b o e, s.tups⟩
theorem Go.put {a : Addr} {xs ys : List V} (m : M a) (h : H a = some (.lst xs)) : Go M H (upd H a (.lst ys)) := ⟨fun b u n e => by
  rw [upd_ne (fun z => n (by rw [z]; exact m))]
  exact e, tups_lst h⟩
theorem Go.new {p : Addr} (h : H p = none) (o : HO) : Go M H (L2.upd H p o) := L2.Same.go (same_new h o)
theorem Go.seqL {a : Addr} {xs : List V} (s : Go M H H') (m : ¬ M a) (h : SqL K H a xs) : SqL K H' a xs := by
  rcases h with (h | ⟨o, h⟩) | h
  · exact .inl (.inl (s.out _ _ m h))
  · exact .inl (.inr ⟨o, s.out _ _ m h⟩)
  · exact .inr h
theorem Go.seqT {a : Addr} {xs : List V} (s : Go M H H') (h : SqT K H a xs) : SqT K H' a xs := s.tups.seq h
end
mutual
inductive Dv (M : Addr → Prop) (K : PySem.W.Frag) (H : Hp) : V → PyData → Prop
  | non : Dv M K H .non .none
  | bl (b : Bool) : Dv M K H (.bl b) (.bool b)
  | int (i : Int) : Dv M K H (.int i) (.int i)
  | str (x : Str) : Dv M K H (.str x) (.str x)
  | lst {a : Addr} {xs : List V} {ds : List PyData} : ¬ M a → SqL K H a xs → DvAll M K H xs ds → Dv M K H (.ref a) (.list ds)
  | tup {a : Addr} {xs : List V} {ds : List PyData} : SqT K H a xs → DvAll M K H xs ds → Dv M K H (.ref a) (.tuple ds)
inductive DvAll (M : Addr → Prop) (K : PySem.W.Frag) (H : Hp) : List V → List PyData → Prop
  | nil : DvAll M K H [] []
  | cons {v : V} {vs : List V} {d : PyData} {ds : List PyData} : Dv M K H v d → DvAll M K H vs ds → DvAll M K H (v :: vs) (d :: ds)
end
section
variable {M M' : Addr → Prop} {K : PySem.W.Frag} {H H' : Hp}
mutual
theorem Dv.dp : ∀ {v : V} {d : PyData}, Dv M K H v d → Dp K H v d
  | _, _, .non => .non
  | _, _, .bl b => .bl b
  | _, _, .int i => .int i
  | _, _, .str x => .str x
  | _, _, .lst _ h a => .lst h a.dp
  | _, _, .tup h a => .tup h a.dp
theorem DvAll.dp : ∀ {vs : List V} {ds : List PyData}, DvAll M K H vs ds → DpAll K H vs ds
  | _, _, .nil => .nil
  | _, _, .cons h a => .cons h.dp a.dp
end
mutual
theorem Dv.stay (t : Go M H H') : ∀ {v : V} {d : PyData}, Dv M K H v d → Dv M K H' v d
  | _, _, .non => .non
  | _, _, .bl b => .bl b
  | _, _, .int i => .int i
  | _, _, .str x => .str x
  | _, _, .lst m h a => .lst m (t.seqL m h) (a.stay t)
  | _, _, .tup h a => .tup (t.seqT h) (a.stay t)
theorem DvAll.stay (t : Go M H H') : ∀ {vs : List V} {ds : List PyData}, DvAll M K H vs ds → DvAll M K H' vs ds
  | _, _, .nil => .nil
  | _, _, .cons h a => .cons (h.stay t) (a.stay t)
end
theorem DvAll.len : ∀ {vs : List V} {ds : List PyData}, DvAll M K H vs ds → vs.length = ds.length
  | _, _, .nil => rfl
  | _, _, .cons _ a => by rw [List.length_cons, List.length_cons, a.len]
theorem DvAll.at : ∀ {vs : List V} {ds : List PyData} {i : Nat} {d : PyData}, DvAll M K H vs ds → ds[i]? = some d → ∃ v, vs[i]? = some v ∧ Dv M K H v d
  | _, _, _, _, .nil, e => by simp at e
  | _, _, 0, _, .cons h _, e => by simp at e; subst e; exact ⟨_, rfl, h⟩
  | _, _, i + 1, d, .cons _ a, e => by simpa using a.at (i := i) (by simpa using e)
theorem DvAll.of : ∀ {vs : List V} {ds : List PyData} {i : Nat} {v : V}, DvAll M K H vs ds → vs[i]? = some v → ∃ d, ds[i]? = some d ∧ Dv M K H v d
  | _, _, _, _, .nil, e => by simp at e
  | _, _, 0, _, .cons h _, e => by simp at e; subst e; exact ⟨_, rfl, h⟩
  | _, _, i + 1, d, .cons _ a, e => by simpa using a.of (i := i) (by simpa using e)
theorem DvAll.app : ∀ {vs ws : List V} {ds es : List PyData}, DvAll M K H vs ds → DvAll M K H ws es → DvAll M K H (vs ++ ws) (ds ++ es)
  | _, _, _, _, .nil, b => b
  | _, _, _, _, .cons h a, b => .cons h (a.app b)
theorem DvAll.take : ∀ {vs : List V} {ds : List PyData} (n : Nat), DvAll M K H vs ds → DvAll M K H (vs.take n) (ds.take n)
  | _, _, 0, _ => .nil
  | _, _, _ + 1, .nil => .nil
  | _, _, n + 1, .cons h a => .cons h (a.take n)
theorem DvAll.drop : ∀ {vs : List V} {ds : List PyData} (n : Nat), DvAll M K H vs ds → DvAll M K H (vs.drop n) (ds.drop n)
  | _, _, 0, a => a
  | _, _, _ + 1, .nil => .nil
  | _, _, n + 1, .cons _ a => a.drop n
theorem DvAll.ints : ∀ (ns : List Int), DvAll M K H (ns.map V.int) (ns.map PyData.int)
  | [] => .nil
  | n :: ns => .cons (.int n) (DvAll.ints ns)
/-- the built-in type of data -/
def tyD : PyData → String
  | .none => "NoneType"
  | .bool _ => "bool"
  | .int _ => "int"
  | .str _ => "str"
  | .list _ => "list"
  | .tuple _ => "tuple"
  | .dict _ => "dict"
theorem tyx_lst {a : Addr} {xs : List V} (h : SqL K H a xs) : TyX K H (.ref a) (.type "list") := by
  rcases h with (h | ⟨o, h⟩) | ⟨o, its, n, hk, hc, _⟩
  · exact .base (.lst h)
  · exact .base (.frz h)
  · exact .kList hk hc
theorem tyx_tup {a : Addr} {xs : List V} (h : SqT K H a xs) : TyX K H (.ref a) (.type "tuple") := by
  rcases h with (h | ⟨o, h⟩) | ⟨o, its, n, hk, hc, _⟩
  · exact .base (.tup h)
  · exact .fTuple h
  · exact .kTuple hk hc
theorem Dv.ty {v : V} {d : PyData} (h : Dv M K H v d) : TyX K H v (.type (tyD d)) := by
  cases h with
  | non => exact .base .non
  | bl b => exact .base (.bl b)
  | int i => exact .base (.int i)
  | str x => exact .base (.str x)
  | lst _ h _ => exact tyx_lst h
  | tup h _ => exact tyx_tup h
/-- a dict with few keys, at the top of a value: what repr tells of it -/
def keyD : Key → PyData
  | .inl i => .int i
  | .inr x => .str x
/-- data, or a dict of such without lists -/
inductive Dq (M : Addr → Prop) (K : PySem.W.Frag) (H : Hp) : V → PyData → Prop
  | data {v : V} {d : PyData} : Dv M K H v d → Dq M K H v d
  | dct {a : Addr} {kvs : List (Key × V)} {ds : List PyData} : ¬ M a → H a = some (.dK kvs) → DtAll K H (kvs.map (·.2)) ds → Dq M K H (.ref a) (.dict ((kvs.map fun p => keyD p.1).zip ds))
end
section
variable {M : Addr → Prop} {K : PySem.W.Frag} {H H' : Hp}
mutual
theorem Dt.dv : ∀ {v : V} {d : PyData}, Dt K H v d → Dv M K H v d
  | _, _, .non => .non
  | _, _, .bl b => .bl b
  | _, _, .int i => .int i
  | _, _, .str x => .str x
  | _, _, .tup h a => .tup h a.dv
theorem DtAll.dv : ∀ {vs : List V} {ds : List PyData}, DtAll K H vs ds → DvAll M K H vs ds
  | _, _, .nil => .nil
  | _, _, .cons h a => .cons h.dv a.dv
end
theorem Dq.stay {v : V} {d : PyData} (t : Go M H H') (h : Dq M K H v d) : Dq M K H' v d := by
  cases h with
  | data h => exact .data (h.stay t)
  | dct m h a => exact .dct m (t.out _ _ m h) (a.stay t.tups)
theorem Dq.ty {v : V} {d : PyData} (h : Dq M K H v d) : TyX K H v (.type (tyD d)) := by
  cases h with
  | data h => exact h.ty
  | dct _ h _ => exact .base (.dK h)
end
section
variable {X : Cx} {pins : List (Addr × Obj)} {σ : L2.St} {H : Hp} {s : Shared} {M : Addr → Prop}
mutual
/-- data without lists is read without a list's place -/
theorem Dt.bare (I : Inv X pins σ H s) : ∀ (d : PyData) (v : V) (u : Value), Dt X.K H v d → RelV v u → Reads s.heap u d []
  | .none, _, _, h, r => by
    cases h
    cases r
    exact Reads.none
  | .bool b, _, _, h, r => by
    cases h
    cases r
    exact Reads.bool b
  | .int i, _, _, h, r => by
    cases h
    obtain ⟨t, rfl⟩ := r
    exact Reads.int i t
  | .str x, _, _, h, r => by
    cases h
    obtain ⟨t, rfl⟩ := r
    exact Reads.str x t
  | .tuple ds, _, _, h, r => by
    cases h with
    | tup hs ha =>
      cases r
      obtain ⟨its, rv, ⟨o, ho, hc, n, hd⟩, _⟩ := I.tuple hs
      exact Reads.tuple ho hc hd (DtAll.bare I ds _ its ha rv)
  | .list _, _, _, h, _ => by cases h
  | .dict _, _, _, h, _ => by cases h
theorem DtAll.bare (I : Inv X pins σ H s) : ∀ (ds : List PyData) (vs : List V) (us : List Value), DtAll X.K H vs ds → Vals vs us → ReadsAll s.heap us ds []
  | [], _, _, h, r => by
    cases h
    cases r
    exact ReadsAll.nil
  | d :: ds, _, _, h, r => by
    cases h with
    | cons h1 h2 =>
      cases r with
      | cons r1 r2 => exact ReadsAll.cons (Dt.bare I d _ _ h1 r1) (DtAll.bare I ds _ _ h2 r2)
end
/-- a dict's keys and values -/
theorem pairs_read {P : Program} {w : World} {kvs : List (Key × V)} {vs : List (Key × Value)} {es : List DictEntry} (kv : KV kvs vs) (ps : Pairs (mixKind P w) es vs) :
    Vals (kvs.map fun p => kV p.1) (es.map (·.key)) ∧ Vals (kvs.map (·.2)) (es.map (·.val)) := by
  induction ps generalizing kvs with
  | nil =>
    cases kv
    exact ⟨.nil, .nil⟩
  | cons hk hv _ ih =>
    cases kv with
    | cons r rr =>
      obtain ⟨i1, i2⟩ := ih rr
      obtain ⟨e1, e2⟩ := r
      refine ⟨.cons ?_ i1, .cons ?_ i2⟩
      · rw [← e1] at hk
        have hk' : keyIs _ _ = true := hk
        rcases keyIs_shape hk' with ⟨i, t, e, q⟩ | ⟨x, t, e, q⟩
        · show RelV (kV _) (DictEntry.key _)
          rw [e, q]
          exact ⟨t, rfl⟩
        · show RelV (kV _) (DictEntry.key _)
          rw [e, q]
          exact ⟨t, rfl⟩
      · show RelV (Prod.snd _) (DictEntry.val _)
        rw [hv]
        exact e2
theorem keys_dt {K : PySem.W.Frag} : ∀ kvs : List (Key × V), DtAll K H (kvs.map fun p => kV p.1) (kvs.map fun p => keyD p.1)
  | [] => .nil
  | (.inl i, v) :: r => .cons (.int i) (keys_dt r)
  | (.inr x, v) :: r => .cons (.str x) (keys_dt r)
/-- repr of such data -/
def rRepV (K : PySem.W.Frag) : List V → Hp → VK → Prop := fun xs H Q => ∃ (M : Addr → Prop) (v : V) (d : PyData), xs = [v] ∧ Dq M K H v d ∧ d.showable = true ∧ d.depth ≤ 60 ∧ d.shown.length ≤ sizeLine ∧ Q (.str d.shown) H
theorem call_repV (guard : X.A.guards = some []) (room : X.A.units + 64 < cLine) : CallR X (.builtin "repr") (rRepV X.K) := by
  intro pins s σ H xs us Q inv rel want
  obtain ⟨M, v, d, e, hd, h1, h2, h3, q⟩ := want
  cases hd with
  | data hd => exact call_rep guard room pins s σ H xs us Q inv rel ⟨v, d, e, hd.dp, h1, h2, h3, q⟩
  | @dct a kvs ds _ ha hv =>
    subst e
    cases rel with
    | cons r0 rr =>
      cases rr
      cases r0
      obtain ⟨_, sys, vs, kv, o, es, ep, ho, ex, hdat, _, ps, _⟩ := (show ObjOk X.prog X.w H s.heap a (.dK kvs) from inv.hok a _ ha)
      obtain ⟨r1, r2⟩ := pairs_read kv ps
      have k1 := DtAll.bare inv _ _ _ (keys_dt kvs) r1
      have k2 := DtAll.bare inv _ _ _ hv r2
      have len : (kvs.map fun p => keyD p.1).length = ds.length := by rw [List.length_map, ← hv.len, List.length_map]
      have z1 : ((kvs.map fun p => keyD p.1).zip ds).map (·.1) = kvs.map fun p => keyD p.1 := List.map_fst_zip (by rw [len]; exact Nat.le_refl _)
      have z2 : ((kvs.map fun p => keyD p.1).zip ds).map (·.2) = ds := List.map_snd_zip (by rw [len]; exact Nat.le_refl _)
      have reads : Reads s.heap (.ref a) (.dict ((kvs.map fun p => keyD p.1).zip ds)) (a :: [] ++ []) := Reads.dict ho ex.1 hdat (by rw [z1]; exact k1) (by rw [z2]; exact k2)
      refine repr_of_reads' reads h1 (fun _ mem => ?_) guard (by omega) (fun _ _ z => z) (fun h' u' tk keep => ⟨.str _, H, inv.kept keep, ⟨_, rfl⟩, q⟩) h3
      have e : sysModules = a := by simpa using mem
      rw [e] at sys
      simp at sys
end
end LG
namespace LG
open PySem PySem.Spec PyProof.Rows L2
section
variable {M : Addr → Prop} {K : PySem.W.Frag} {H H' : Hp}
/-- what was made since is changed -/
theorem Go.own {p : Addr} (g : Go M H H') (h : H p = none) (o : HO) : Go M H (L2.upd H' p o) := ⟨fun b u m e => by
  rw [upd_ne (ne_of_none e h)]
  exact g.out b u m e, fun b u k e => by
  rw [upd_ne (ne_of_none e h)]
  exact g.tups b u k e⟩
theorem Hand.off {h d p : Addr} {ds : List Int} {n : Nat} (x : Hand H h d ds n) (hp : p ≠ h) (dp : p ≠ d) (o : HO) : Hand (L2.upd H p o) h d ds n := ⟨by rw [upd_ne hp.symm]; exact x.1, by rw [upd_ne dp.symm]; exact x.2⟩
theorem Hand.go {h d : Addr} {ds : List Int} {n : Nat} (x : Hand H h d ds n) : Go (· = h) H (L2.upd H h (.lst [.ref d, .int ((n + 1 : Nat) : Int)])) := Go.put rfl x.1
theorem Hand.new {h d p : Addr} {ds : List Int} {n : Nat} (x : Hand H h d ds n) (hp : H p = none) (o : HO) : Hand (L2.upd H p o) h d ds n := x.same (same_new hp o)
theorem at_any {α : Type} {xs : List α} {i : Int} (h0 : -(xs.length : Int) ≤ i) (h1 : i < (xs.length : Int)) : ∃ (j : Nat) (y : α), xs[j]? = some y ∧ atI xs i = some y := by
  by_cases h : 0 ≤ i
  · have lt : i.toNat < xs.length := by omega
    refine ⟨i.toNat, xs[i.toNat], by simp [lt], ?_⟩
    unfold atI ixN
    rw [if_pos h, if_pos h1]
    simp [lt]
  · have lt : (i + (xs.length : Int)).toNat < xs.length := by omega
    refine ⟨(i + (xs.length : Int)).toNat, xs[(i + (xs.length : Int)).toNat], by simp [lt], ?_⟩
    unfold atI ixN
    rw [if_neg h, if_pos h0]
    simp [lt]
/-- some item of a row of data -/
theorem DvAll.pick {xs : List V} {ds : List PyData} {i : Int} (a : DvAll M K H xs ds) (h0 : -(ds.length : Int) ≤ i) (h1 : i < (ds.length : Int)) : ∃ y e, atI xs i = some y ∧ e ∈ ds ∧ Dv M K H y e := by
  rw [← a.len] at h0 h1
  obtain ⟨j, y, hj, hy⟩ := at_any h0 h1
  obtain ⟨e, he, d⟩ := a.of hj
  exact ⟨y, e, hy, List.mem_of_getElem? he, d⟩
theorem DtAll.pick {xs : List V} {ds : List PyData} {i : Int} (a : DtAll K H xs ds) (h0 : -(ds.length : Int) ≤ i) (h1 : i < (ds.length : Int)) : ∃ y e, atI xs i = some y ∧ e ∈ ds ∧ Dt K H y e := by
  rw [← a.len] at h0 h1
  obtain ⟨j, y, hj, hy⟩ := at_any h0 h1
  obtain ⟨e, he, d⟩ := a.of hj
  exact ⟨y, e, hy, List.mem_of_getElem? he, d⟩
inductive DqAll (M : Addr → Prop) (K : PySem.W.Frag) (H : Hp) : List V → List PyData → Prop
  | nil : DqAll M K H [] []
  | cons {v : V} {vs : List V} {d : PyData} {ds : List PyData} : Dq M K H v d → DqAll M K H vs ds → DqAll M K H (v :: vs) (d :: ds)
theorem DqAll.len : ∀ {vs : List V} {ds : List PyData}, DqAll M K H vs ds → vs.length = ds.length
  | _, _, .nil => rfl
  | _, _, .cons _ a => by rw [List.length_cons, List.length_cons, a.len]
theorem DqAll.of : ∀ {vs : List V} {ds : List PyData} {i : Nat} {v : V}, DqAll M K H vs ds → vs[i]? = some v → ∃ d, ds[i]? = some d ∧ Dq M K H v d
  | _, _, _, _, .nil, e => by simp at e
  | _, _, 0, _, .cons h _, e => by simp at e; subst e; exact ⟨_, rfl, h⟩
  | _, _, i + 1, d, .cons _ a, e => by simpa using a.of (i := i) (by simpa using e)
theorem DqAll.pick {xs : List V} {ds : List PyData} {i : Int} (a : DqAll M K H xs ds) (h0 : -(ds.length : Int) ≤ i) (h1 : i < (ds.length : Int)) : ∃ y e, atI xs i = some y ∧ e ∈ ds ∧ Dq M K H y e := by
  rw [← a.len] at h0 h1
  obtain ⟨j, y, hj, hy⟩ := at_any h0 h1
  obtain ⟨e, he, d⟩ := a.of hj
  exact ⟨y, e, hy, List.mem_of_getElem? he, d⟩
theorem DqAll.stay (t : Go M H H') : ∀ {vs : List V} {ds : List PyData}, DqAll M K H vs ds → DqAll M K H' vs ds
  | _, _, .nil => .nil
  | _, _, .cons h a => .cons (h.stay t) (a.stay t)
/-- two parts -/
theorem sized_two {m1 m2 h1 h2 : Nat} {a b : PyData} (sa : Sized m1 h1 a) (sb : Sized m2 h2 b) : Sized (m1 + m2 + 2) (max h1 h2 + 1) (.tuple [a, b]) := by
  obtain ⟨a1, a2, a3, a4⟩ := sa
  obtain ⟨b1, b2, b3, b4⟩ := sb
  refine ⟨?_, ?_, ?_, ?_⟩
  · simp only [PyData.leavesShort, PyData.leavesShortAll, a1, b1, Bool.and_self]
  · simp only [PyData.showable, PyData.showableAll, a2, b2, Bool.and_self]
  · simp only [PyData.depth, PyData.depthAll]
    omega
  · simp only [PyData.bulk, PyData.bulkAll]
    omega
theorem sized_str (x : Str) (h : (x.cps.toList.all fun c => decide (c < 16 ^ 8)) = true) (n : Nat) (hn : x.cps.size ≤ n) : Sized n 0 (.str x) := ⟨by simp only [PyData.leavesShort]; exact h, by simp only [PyData.showable], by simp only [PyData.depth]; omega, by simp only [PyData.bulk]; exact hn⟩
end
end LG
/-! ### tuples of ints: order, sorting; membership -/
namespace LG
open PySem PySem.Spec PyProof.Rows L2
/-- a row of ints as data -/
def tupI (r : List Int) : PyData := .tuple (r.map PyData.int)
section
variable {X : Cx}
theorem dp_row {K : PySem.W.Frag} {H : Hp} {a : Addr} {ns : List Int} (h : SqT K H a (ns.map V.int)) : Dp K H (.ref a) (tupI ns) := .tup h (DtAll.ints ns).dp
theorem row_depth (ns : List Int) : (tupI ns).depth = 1 := by
  unfold tupI
  simp only [PyData.depth, PySem.W.depth_ints]
theorem row_lt (ns ms : List Int) : PySem.W.dataLt (tupI ns) (tupI ms) = decide (ns < ms) := by
  rw [← PySem.W.dataLt_ints]
  exact PySem.W.dataLt_tuple _ _
theorem row_alike (ns ms : List Int) : PySem.W.alike (tupI ns) (tupI ms) = true := by
  unfold tupI
  rw [PySem.W.alike]
  exact PySem.W.alike_ints ns ms
/-- x >= y, rows of ints -/
def rGeR (K : PySem.W.Frag) : R2 := fun x y H Q => ∃ (a b : Addr) (ns ms : List Int), x = .ref a ∧ y = .ref b ∧ SqT K H a (ns.map V.int) ∧ SqT K H b (ms.map V.int) ∧ Q (.bl (!decide (ns < ms))) H
theorem op_geR (hu : X.A.units + 64 < cLine) : OpR X (compareOp .GtE) (rGeR X.K) := by
  intro pins s σ H x y v u Q I rx ry h
  obtain ⟨a, b, ns, ms, rfl, rfl, ha, hb, q⟩ := h
  obtain ⟨as, r1⟩ := Dp.reads I _ _ v (dp_row ha) rx
  obtain ⟨bs, r2⟩ := Dp.reads I _ _ u (dp_row hb) ry
  exact PySem.W.ge_data r1 r2 (row_alike ns ms) (by unfold tupI; exact nofun) (by rw [row_depth]; omega) ⟨.bl _, H, I, rfl, by rw [row_lt]; exact q⟩
def rLtR (K : PySem.W.Frag) : R2 := fun x y H Q => ∃ (a b : Addr) (ns ms : List Int), x = .ref a ∧ y = .ref b ∧ SqT K H a (ns.map V.int) ∧ SqT K H b (ms.map V.int) ∧ Q (.bl (decide (ns < ms))) H
theorem op_ltR (hu : X.A.units + 64 < cLine) : OpR X (compareOp .Lt) (rLtR X.K) := by
  intro pins s σ H x y v u Q I rx ry h
  obtain ⟨a, b, ns, ms, rfl, rfl, ha, hb, q⟩ := h
  obtain ⟨as, r1⟩ := Dp.reads I _ _ v (dp_row ha) rx
  obtain ⟨bs, r2⟩ := Dp.reads I _ _ u (dp_row hb) ry
  exact PySem.W.lt_data r1 r2 (row_alike ns ms) (by unfold tupI; exact nofun) (by rw [row_depth]; omega) ⟨.bl _, H, I, rfl, by rw [row_lt]; exact q⟩
/-- x in t, t a tuple of data -/
def rInTD (K : PySem.W.Frag) : R2 := fun x y H Q => ∃ d ds, Dp K H x d ∧ Dp K H y (.tuple ds) ∧ SeqAt.shaped d = true ∧ SeqAt.shaped (.list ds) = true ∧ Q (.bl (ds.any fun z => PyData.eqv z d)) H
theorem op_inTD (hu : X.A.units + 65 < cLine) : OpR X (compareOp .In) (rInTD X.K) := by
  intro pins s σ H x y v u Q I rx ry h
  obtain ⟨d, ds, hd, he, sd, se, q⟩ := h
  obtain ⟨as, r1⟩ := Dp.reads I d x v hd rx
  obtain ⟨bs, r2⟩ := Dp.reads I (.tuple ds) y u he ry
  exact SeqAt.in_tuple_reads r2 r1 (SeqAt.canLay_of_shaped se) (SeqAt.canLay_of_shaped sd) (room_in_shaped sd hu) ⟨.bl _, H, I, rfl, q⟩
/-- the order of sorting -/
def leR (a b : List Int) : Bool := !decide (b < a)
def rSortR (K : PySem.W.Frag) : List V → Hp → VK → Prop := fun vs H Q => ∃ (a : Addr) (xs : List V) (rs : List (List Int)), vs = [V.ref a] ∧ SqL K H a xs ∧ DtAll K H xs (rs.map tupI) ∧ rs.length ≤ 1000 ∧ (∀ r ∈ rs, r ≠ []) ∧
  ∀ (ys : List V) (p : Addr), H p = none → DtAll K H ys ((rs.mergeSort leR).map tupI) → Q (.ref p) (upd H p (.lst ys))
theorem each_of {K : PySem.W.Frag} {H : Hp} : ∀ {rs : List (List Int)} {xs : List V} {us : List Value}, DtAll K H xs (rs.map tupI) → Vals xs us → PySem.W.EachIs (fun u r => ∃ t, u = Value.ref t ∧ SqT K H t (r.map V.int)) us rs
  | [], _, _, h, r => by
    cases h
    cases r
    exact .nil
  | b :: bs, _, _, h, r => by
    cases h with
    | cons h1 h2 =>
      cases r with
      | cons r1 r2 =>
        refine .cons ?_ (each_of h2 r2)
        cases h1 with
        | @tup a ys ds hs ha =>
          cases r1
          refine ⟨a, rfl, ?_⟩
          have e : ys = b.map V.int := by
            clear hs h2 r2
            induction b generalizing ys with
            | nil => cases ha; rfl
            | cons x b ih =>
              cases ha with
              | cons h h' =>
                cases h
                rw [List.map_cons, ← ih h']
          rw [← e]
          exact hs
theorem each_back {K : PySem.W.Frag} {H : Hp} : ∀ {rs : List (List Int)} {us : List Value}, PySem.W.EachIs (fun u r => ∃ t, u = Value.ref t ∧ SqT K H t (r.map V.int)) us rs → ∃ ys, Vals ys us ∧ DtAll K H ys (rs.map tupI)
  | [], _, .nil => ⟨[], .nil, .nil⟩
  | b :: bs, _, .cons ⟨t, e, h⟩ r => by
    obtain ⟨ys, v, d⟩ := each_back r
    subst e
    exact ⟨.ref t :: ys, .cons rfl v, .cons (.tup h (DtAll.ints b)) d⟩
theorem cr_sortR (hu : X.A.units + 64 < cLine) : CallR X (.builtin "sorted") (rSortR X.K) := by
  intro pins s σ H vs us Q I r h
  obtain ⟨a, xs, rs, rfl, hs, hd, hz, ne, q⟩ := h
  obtain ⟨its, rv, hl, hz2⟩ := I.list hs
  rw [Vals.ref1 r]
  have ea := each_of hd rv
  have er : PySem.W.EachIs (fun v b => ∃ as, Reads s.heap v (tupI b) as) its rs := ea.mono fun u b ⟨t, e, ht⟩ => by
    subst e
    exact Dp.reads I _ _ _ (dp_row ht) rfl
  have al : PySem.W.AllAlike (rs.map tupI) := fun d hd d' hd' => by
    obtain ⟨x, _, rfl⟩ := List.mem_map.mp hd
    obtain ⟨y, _, rfl⟩ := List.mem_map.mp hd'
    exact row_alike x y
  have so : PySem.W.Sortable (rs.map tupI) := .inl fun d hd => by
    obtain ⟨x, hx, rfl⟩ := List.mem_map.mp hd
    cases x with
    | nil => exact absurd rfl (ne _ hx)
    | cons i x => exact ⟨_, _, rfl⟩
  refine PySem.W.sorted_data hl.isList ea er al so (Nat.le_trans hz (by decide)) (fun b _ => by rw [row_depth]; omega) fun out hlen hout => ?_
  have eo : PySem.W.dataLe false tupI = leR := by
    rw [PySem.W.dataLe_eq]
    funext x y
    simp only [cond_false, row_lt]
    rfl
  rw [eo] at hout
  obtain ⟨ys, vy, dy⟩ := each_back hout
  obtain ⟨ep, he'⟩ := PyProof.Rows.sortedAll_at s.heap its out.toArray
  have len : ys.length ≤ sizeLine := by
    rw [vy.length, hlen]
    exact Nat.le_trans hz (by decide)
  exact ⟨.ref _, upd H (s.heap.objs.size + 1) (.lst ys), I.laid (t' := s.toks) (fun _ _ => PyProof.Rows.sortedAll_old) (Nat.le_succ _) ⟨len, out, ep, vy, he'⟩, rfl, q _ _ (I.hok.fresh (Nat.le_succ _)) dy⟩
end
end LG
/-! ### data with dicts at any place -/
namespace LG
open PySem PySem.Spec PyProof.Rows L2
mutual
inductive Dn (M : Addr → Prop) (K : PySem.W.Frag) (H : Hp) : V → PyData → Prop
  | non : Dn M K H .non .none
  | bl (b : Bool) : Dn M K H (.bl b) (.bool b)
  | int (i : Int) : Dn M K H (.int i) (.int i)
  | str (x : Str) : Dn M K H (.str x) (.str x)
  | lst {a : Addr} {xs : List V} {ds : List PyData} : ¬ M a → H a = some (.lst xs) → DnAll M K H xs ds → Dn M K H (.ref a) (.list ds)
  | tup {a : Addr} {xs : List V} {ds : List PyData} : SqT K H a xs → DnAll M K H xs ds → Dn M K H (.ref a) (.tuple ds)
  | dct {a : Addr} {kvs : List (Key × V)} {ds : List PyData} : ¬ M a → H a = some (.dK kvs) → DnAll M K H (kvs.map (·.2)) ds → Dn M K H (.ref a) (.dict ((kvs.map fun p => keyD p.1).zip ds))
inductive DnAll (M : Addr → Prop) (K : PySem.W.Frag) (H : Hp) : List V → List PyData → Prop
  | nil : DnAll M K H [] []
  | cons {v : V} {vs : List V} {d : PyData} {ds : List PyData} : Dn M K H v d → DnAll M K H vs ds → DnAll M K H (v :: vs) (d :: ds)
end
section
variable {M M' : Addr → Prop} {K : PySem.W.Frag} {H H' : Hp}
mutual
theorem Dt.dn : ∀ {v : V} {d : PyData}, Dt K H v d → Dn M K H v d
  | _, _, .non => .non
  | _, _, .bl b => .bl b
  | _, _, .int i => .int i
  | _, _, .str x => .str x
  | _, _, .tup h a => .tup h a.dn
theorem DtAll.dn : ∀ {vs : List V} {ds : List PyData}, DtAll K H vs ds → DnAll M K H vs ds
  | _, _, .nil => .nil
  | _, _, .cons h a => .cons h.dn a.dn
end
mutual
theorem Dn.stay (t : Go M H H') : ∀ {v : V} {d : PyData}, Dn M K H v d → Dn M K H' v d
  | _, _, .non => .non
  | _, _, .bl b => .bl b
  | _, _, .int i => .int i
  | _, _, .str x => .str x
  | _, _, .lst m h a => .lst m (t.out _ _ m h) (a.stay t)
  | _, _, .tup h a => .tup (t.seqT h) (a.stay t)
  | _, _, .dct m h a => .dct m (t.out _ _ m h) (a.stay t)
theorem DnAll.stay (t : Go M H H') : ∀ {vs : List V} {ds : List PyData}, DnAll M K H vs ds → DnAll M K H' vs ds
  | _, _, .nil => .nil
  | _, _, .cons h a => .cons (h.stay t) (a.stay t)
end
theorem DnAll.len : ∀ {vs : List V} {ds : List PyData}, DnAll M K H vs ds → vs.length = ds.length
  | _, _, .nil => rfl
  | _, _, .cons _ a => by rw [List.length_cons, List.length_cons, a.len]
theorem DnAll.at : ∀ {vs : List V} {ds : List PyData} {i : Nat} {d : PyData}, DnAll M K H vs ds → ds[i]? = some d → ∃ v, vs[i]? = some v ∧ Dn M K H v d
  | _, _, _, _, .nil, e => by simp at e
  | _, _, 0, _, .cons h _, e => by simp at e; subst e; exact ⟨_, rfl, h⟩
  | _, _, i + 1, d, .cons _ a, e => by simpa using a.at (i := i) (by simpa using e)
theorem DnAll.of : ∀ {vs : List V} {ds : List PyData} {i : Nat} {v : V}, DnAll M K H vs ds → vs[i]? = some v → ∃ d, ds[i]? = some d ∧ Dn M K H v d
  | _, _, _, _, .nil, e => by simp at e
  | _, _, 0, _, .cons h _, e => by simp at e; subst e; exact ⟨_, rfl, h⟩
  | _, _, i + 1, d, .cons _ a, e => by simpa using a.of (i := i) (by simpa using e)
theorem DnAll.app : ∀ {vs ws : List V} {ds es : List PyData}, DnAll M K H vs ds → DnAll M K H ws es → DnAll M K H (vs ++ ws) (ds ++ es)
  | _, _, _, _, .nil, b => b
  | _, _, _, _, .cons h a, b => .cons h (a.app b)
theorem DnAll.take : ∀ {vs : List V} {ds : List PyData} (n : Nat), DnAll M K H vs ds → DnAll M K H (vs.take n) (ds.take n)
  | _, _, 0, _ => .nil
  | _, _, _ + 1, .nil => .nil
  | _, _, n + 1, .cons h a => .cons h (a.take n)
theorem DnAll.drop : ∀ {vs : List V} {ds : List PyData} (n : Nat), DnAll M K H vs ds → DnAll M K H (vs.drop n) (ds.drop n)
  | _, _, 0, a => a
  | _, _, _ + 1, .nil => .nil
  | _, _, n + 1, .cons _ a => a.drop n
theorem DnAll.pick {xs : List V} {ds : List PyData} {i : Int} (a : DnAll M K H xs ds) (h0 : -(ds.length : Int) ≤ i) (h1 : i < (ds.length : Int)) : ∃ y e, atI xs i = some y ∧ e ∈ ds ∧ Dn M K H y e := by
  rw [← a.len] at h0 h1
  obtain ⟨j, y, hj, hy⟩ := at_any h0 h1
  obtain ⟨e, he, d⟩ := a.of hj
  exact ⟨y, e, hy, List.mem_of_getElem? he, d⟩
theorem Dn.ty {v : V} {d : PyData} (h : Dn M K H v d) : TyX K H v (.type (tyD d)) := by
  cases h with
  | non => exact .base .non
  | bl b => exact .base (.bl b)
  | int i => exact .base (.int i)
  | str x => exact .base (.str x)
  | lst _ h _ => exact tyx_lst (SqL.of h)
  | tup h _ => exact tyx_tup h
  | dct _ h _ => exact .base (.dK h)
theorem dn_tup {x : V} {ds : List PyData} (h : Dn M K H x (.tuple ds)) : ∃ a xs, x = .ref a ∧ SqT K H a xs ∧ DnAll M K H xs ds := by
  cases h with
  | tup h1 h2 => exact ⟨_, _, rfl, h1, h2⟩
theorem dn_int {x : V} {i : Int} (h : Dn M K H x (.int i)) : x = .int i := by
  cases h
  rfl
theorem dn_str {x : V} {i : Str} (h : Dn M K H x (.str i)) : x = .str i := by
  cases h
  rfl
/-- without dicts it is the library's data -/
theorem Dn.dp : ∀ (d : PyData) {v : V}, d.hasDict = false → Dn M K H v d → Dp K H v d
  | .none, _, _, .non => .non
  | .bool b, _, _, .bl _ => .bl b
  | .int i, _, _, .int _ => .int i
  | .str x, _, _, .str _ => .str x
  | .list ds, _, n, .lst _ h a => .lst (SqL.of h) (go ds (by simpa only [PyData.hasDict] using n) a)
  | .tuple ds, _, n, .tup h a => .tup h (go ds (by simpa only [PyData.hasDict] using n) a)
  | .dict _, _, n, _ => by simp [PyData.hasDict] at n
where go : ∀ (ds : List PyData) {vs : List V}, PyData.hasDictAll ds = false → DnAll M K H vs ds → DpAll K H vs ds
  | [], _, _, .nil => .nil
  | d :: ds, _, n, .cons h a => by
    simp only [PyData.hasDictAll, Bool.or_eq_false_iff] at n
    exact .cons (Dn.dp d n.1 h) (go ds n.2 a)
/-- the table of modules is no list of ours -/
def Sys (K : PySem.W.Frag) (H : Hp) : Prop := ∃ o u, H sysModules = some (.frz o u)
theorem Sys.same (s : Sys K H) (e : Same H H') : Sys K H' := by
  obtain ⟨o, u, h⟩ := s
  exact ⟨o, u, e _ _ h⟩
theorem Sys.go (s : Sys K H) (e : Go M H H') (m : ¬ M sysModules) : Sys K H' := by
  obtain ⟨o, u, h⟩ := s
  exact ⟨o, u, e.out _ _ m h⟩
theorem Sys.lst (s : Sys K H) {a : Addr} {xs : List V} (h : H a = some (.lst xs)) : sysModules ≠ a := by
  obtain ⟨o, u, e⟩ := s
  rintro rfl
  rw [e] at h
  cases h
theorem Sys.ne (s : Sys K H) {a : Addr} {xs : List V} (h : H a = some (.lst xs)) : ¬ sysModules = a := s.lst h
end
section
variable {X : Cx} {pins : List (Addr × Obj)} {σ : L2.St} {H : Hp} {s : Shared} {M : Addr → Prop}
mutual
theorem Dn.reads (I : Inv X pins σ H s) (S : Sys X.K H) : ∀ {v : V} {d : PyData}, Dn M X.K H v d → ∀ u : Value, RelV v u → ∃ as, Reads s.heap u d as ∧ sysModules ∉ as
  | _, _, .non, _, r => by
    cases r
    exact ⟨_, Reads.none, List.not_mem_nil⟩
  | _, _, .bl b, _, r => by
    cases r
    exact ⟨_, Reads.bool b, List.not_mem_nil⟩
  | _, _, .int i, _, r => by
    obtain ⟨t, rfl⟩ := r
    exact ⟨_, Reads.int i t, List.not_mem_nil⟩
  | _, _, .str x, _, r => by
    obtain ⟨t, rfl⟩ := r
    exact ⟨_, Reads.str x t, List.not_mem_nil⟩
  | _, _, .lst _ hs ha, _, r => by
    cases r
    obtain ⟨its, rv, ⟨o, n, ho, hc, _, hd⟩, _⟩ := I.list (SqL.of hs)
    obtain ⟨as, q1, q2⟩ := DnAll.reads I S ha its rv
    refine ⟨_, Reads.list ho hc hd (by simpa using q1), ?_⟩
    rw [List.mem_cons]
    rintro (e | e)
    · exact S.lst hs e
    · exact q2 e
  | _, _, .tup hs ha, _, r => by
    cases r
    obtain ⟨its, rv, ⟨o, ho, hc, n, hd⟩, _⟩ := I.tuple hs
    obtain ⟨as, q1, q2⟩ := DnAll.reads I S ha its rv
    exact ⟨_, Reads.tuple ho hc hd (by simpa using q1), q2⟩
  | _, _, .dct (a := a) (kvs := kvs) (ds := ds) _ hH ha, _, r => by
    cases r
    obtain ⟨_, sys, vs, kv, o, es, ep, ho, ex, hdat, _, ps, _⟩ := (show ObjOk X.prog X.w H s.heap a (.dK kvs) from I.hok a _ hH)
    obtain ⟨r1, r2⟩ := pairs_read kv ps
    have k1 := DtAll.bare I _ _ _ (keys_dt kvs) r1
    have len : (kvs.map fun p => keyD p.1).length = ds.length := by rw [List.length_map, ← ha.len, List.length_map]
    have z1 : ((kvs.map fun p => keyD p.1).zip ds).map (·.1) = kvs.map fun p => keyD p.1 := List.map_fst_zip (by rw [len]; exact Nat.le_refl _)
    have z2 : ((kvs.map fun p => keyD p.1).zip ds).map (·.2) = ds := List.map_snd_zip (by rw [len]; exact Nat.le_refl _)
    obtain ⟨as, q1, q2⟩ := DnAll.reads I S ha _ r2
    refine ⟨_, Reads.dict ho ex.1 hdat (by rw [z1]; exact k1) (by rw [z2]; exact q1), ?_⟩
    rw [List.mem_append, List.mem_singleton]
    rintro (e | e)
    · rw [← e] at sys
      simp at sys
    · exact q2 e
theorem DnAll.reads (I : Inv X pins σ H s) (S : Sys X.K H) : ∀ {vs : List V} {ds : List PyData}, DnAll M X.K H vs ds → ∀ us : List Value, Vals vs us → ∃ as, ReadsAll s.heap us ds as ∧ sysModules ∉ as
  | _, _, .nil, _, r => by
    cases r
    exact ⟨_, ReadsAll.nil, List.not_mem_nil⟩
  | _, _, .cons h1 h2, _, r => by
    cases r with
    | cons r1 r2 =>
      obtain ⟨as, q1, n1⟩ := Dn.reads I S h1 _ r1
      obtain ⟨bs, q2, n2⟩ := DnAll.reads I S h2 _ r2
      refine ⟨_, ReadsAll.cons q1 q2, ?_⟩
      rw [List.mem_append]
      rintro (e | e)
      · exact n1 e
      · exact n2 e
end
end
section
variable {X : Cx}
/-- repr of such data -/
def rRepN (K : PySem.W.Frag) : List V → Hp → VK → Prop := fun xs H Q => ∃ (M : Addr → Prop) (v : V) (d : PyData), xs = [v] ∧ Dn M K H v d ∧ Sys K H ∧ d.showable = true ∧ d.depth ≤ 60 ∧ d.shown.length ≤ sizeLine ∧ Q (.str d.shown) H
theorem call_repN (guard : X.A.guards = some []) (room : X.A.units + 64 < cLine) : CallR X (.builtin "repr") (rRepN X.K) := by
  intro pins s σ H xs us Q inv rel want
  obtain ⟨M, v, d, rfl, hd, S, h1, h2, h3, q⟩ := want
  cases rel with
  | cons r0 rr =>
  rename_i u us'
  cases rr
  obtain ⟨as, reads, no⟩ := Dn.reads inv S hd u r0
  have dict : d.hasDict = true → sysModules ∉ as := fun _ => no
  cases hd with
  | non =>
    cases r0
    exact PySem.P.repr_of_none ⟨.str _, H, inv.tok _, ⟨_, rfl⟩, by simpa only [PyData.shown] using q⟩
  | bl b =>
    cases r0
    refine PySem.P.repr_of_bool ⟨.str _, H, inv.tok _, ⟨_, rfl⟩, by simpa only [PyData.shown] using q⟩
  | int i =>
    obtain ⟨t, rfl⟩ := r0
    exact PySem.P.repr_of_int (by simpa [PyData.showable] using h1) ⟨.str _, H, inv.tok _, ⟨_, rfl⟩, by simpa only [PyData.shown] using q⟩
  | str x =>
    obtain ⟨t, rfl⟩ := r0
    exact PySem.P.repr_of_str ⟨.str _, H, inv.tok _, ⟨_, rfl⟩, by simpa only [PyData.shown] using q⟩ (by simpa only [PyData.shown] using h3)
  | lst _ _ _ =>
    cases r0
    exact repr_of_reads' reads h1 dict guard (by omega) (fun _ _ z => z) (fun h' u' tk keep => ⟨.str _, H, inv.kept keep, ⟨_, rfl⟩, q⟩) h3
  | tup _ _ =>
    cases r0
    exact repr_of_reads' reads h1 dict guard (by omega) (fun _ _ z => z) (fun h' u' tk keep => ⟨.str _, H, inv.kept keep, ⟨_, rfl⟩, q⟩) h3
  | dct _ _ _ =>
    cases r0
    exact repr_of_reads' reads h1 dict guard (by omega) (fun _ _ z => z) (fun h' u' tk keep => ⟨.str _, H, inv.kept keep, ⟨_, rfl⟩, q⟩) h3
end
end LG
/-! ### the end, the table of modules told apart -/
namespace LG
open PySem PySem.W PySem.Spec PyProof.Rows L2
section
variable {P : Program} {w : World} {K : PySem.W.Frag} {mg mb : Str → Option Value} {k : Nat} {fa a : Addr} {fd : FuncData} {x : Str} {sp : Sp} {s : Shared} {vs : List Value} {ns : List Int}
theorem endS_from (inK : K.In s.heap) (mains : s.heap.Ns mainGlobals mg) (blts : s.heap.Ns builtinsNs mb) (boot : ∀ y : Str, y ≠ "__name__" → mb y = bootBuiltins y) (noLim : s.heap.NoLimit) (gens : s.gens = #[])
    (obj : s.heap.get? a = some { cls := .type "list", data := .seq vs.toArray }) (room : Room k callerA) (goesF : ∀ base : Heap, K.In base → base.Ns mainGlobals mg → FnG P w K mg base k fa fd [x] sp)
    (bind : ∀ (s : Shared) (u : Value), BindsTo s fd ⟨[u], []⟩ [(x, u)]) (H : Hp) (only : ∀ b, H b = none ∨ ∃ o u, H b = some (.frz o u)) (held : HOk P w H s.heap) (alone : ∀ b, H b ≠ none → b = a ∨ b = sysModules) (away : ∀ b, H b ≠ none → K.lookup b = none)
    (want : sp [.ref a] H (fun v _ => v = .bl true) E0) :
    codeAny (model P w) callerA (.call (.ref fa) ⟨[.ref a], []⟩) (fun r s' => r = .ok (.ret (.bool true)) ∧ OldK s.heap s'.heap ∧ s'.os = s.os ∧ AllBare s'.gens) s := by
  have space : ∀ {b : Addr} {m : Str → Option Value}, b ≠ sysModules → s.heap.Ns b m → (hidT s.heap H).Ns b m := fun {b m} nb ⟨o, es, ep, e, d, more⟩ =>
    ⟨o, es, ep, hidT_get e (by
      cases q : H b with
      | none => rfl
      | some u =>
        rcases alone b (by rw [q]; exact nofun) with here | here
        · rw [here, obj] at e
          have e2 := Option.some.inj e
          rw [← e2] at d
          exact nomatch d
        · exact absurd here nb), d, more⟩
  have baseK : K.In (hidT s.heap H) := fun b o e => hidT_get (inK b o e) (by
    cases q : H b with
    | none => rfl
    | some u =>
      have no := away b (by rw [q]; exact nofun)
      rw [no] at e
      exact nomatch e)
  have lim : (hidT s.heap H).NoLimit := by
    obtain ⟨mc, h1, h2⟩ := noLim
    exact ⟨mc, space (by decide) h1, h2⟩
  have mains2 := space (by decide) mains
  have modu : Mod K mg (hidT s.heap H) := ⟨baseK, mains2, ⟨mb, space (by decide) blts, boot⟩, lim⟩
  have e0 : Env0 P w K mg (hidT s.heap H) callerA [] s H := ⟨rfl, modu, fun _ _ e => of_hidT e, Nat.le_of_eq (hidT_size _ _), trivial, (fun _ hb => absurd (show _ ∈ ([] : List Addr) from hb) List.not_mem_nil), held, .of_eq gens⟩
  refine codeAny_mono ((goesF _ baseK mains2).goes callerA [] s H [.ref a] [.ref a] _ E0 rfl room e0 (bind s (.ref a)) (.cons rfl .nil) want) fun r s' got => ?_
  cases r with
  | error _ => exact False.elim got
  | ok flow =>
  cases flow with
  | next => exact False.elim got
  | brk => exact False.elim got
  | cont => exact False.elim got
  | ret u =>
    obtain ⟨v, H', sameOs, bare, un, held', rel, yes⟩ := got
    have yes' : v = .bl true := yes
    subst yes'
    obtain rfl : u = Value.bool true := rel
    refine ⟨rfl, OldK.of_keep fun b o e => ?_, sameOs, bare⟩
    rcases only b with free | ⟨ob, xs, fz⟩
    · exact un.keep b o e free (fun z => nomatch z) (fun z => nomatch z)
    · obtain ⟨e1, _⟩ := held b _ fz
      obtain ⟨e2, _⟩ := held' b _ (un.frzs b ob _ fz)
      rw [e2, ← e1, e]
theorem endS_call (inK : K.In s.heap) (mains : s.heap.Ns mainGlobals mg) (blts : s.heap.Ns builtinsNs mb) (boot : ∀ y : Str, y ≠ "__name__" → mb y = bootBuiltins y) (noLim : s.heap.NoLimit) (gens : s.gens = #[])
    (obj : s.heap.get? a = some { cls := .type "list", data := .seq vs.toArray }) (numbs : PyProof.Rows.IntsAre vs ns) (small : ns.length ≤ sizeLine) (room : Room k callerA) (sysK : K.lookup sysModules = none) (seer : s.heap.NoSeer)
    (goesF : ∀ base : Heap, K.In base → base.Ns mainGlobals mg → FnG P w K mg base k fa fd [x] sp) (bind : ∀ (s : Shared) (u : Value), BindsTo s fd ⟨[u], []⟩ [(x, u)])
    (want : ∀ H : Hp, Sys K H → SqL K H a (ns.map V.int) → sp [.ref a] H (fun v _ => v = .bl true) E0) :
    codeAny (model P w) callerA (.call (.ref fa) ⟨[.ref a], []⟩) (fun r s' => r = .ok (.ret (.bool true)) ∧ OldK s.heap s'.heap ∧ s'.os = s.os ∧ AllBare s'.gens) s := by
  have rel := vals_ints numbs
  obtain ⟨ob, hob⟩ : ∃ ob, s.heap.get? sysModules = some ob := by
    obtain ⟨mm, ⟨o, es, ep, e, _⟩, _⟩ := seer.mods
    exact ⟨o, e⟩
  let two : Hp := fun b => if b = a ∧ K.lookup a = none then some (.frz { cls := .type "list", data := .seq vs.toArray } (.lst (ns.map V.int))) else if b = sysModules then some (.frz ob (.ext fun h => h.get? sysModules = some ob)) else none
  have only : ∀ b, two b = none ∨ ∃ o u, two b = some (.frz o u) := fun b => by
    by_cases h1 : b = a ∧ K.lookup a = none
    · exact .inr ⟨_, _, if_pos h1⟩
    · by_cases h2 : b = sysModules
      · exact .inr ⟨_, _, (if_neg h1).trans (if_pos h2)⟩
      · exact .inl ((if_neg h1).trans (if_neg h2))
  have alone : ∀ b, two b ≠ none → b = a ∨ b = sysModules := fun b h => by
    by_cases h1 : b = a ∧ K.lookup a = none
    · exact .inl h1.1
    · by_cases h2 : b = sysModules
      · exact .inr h2
      · exact absurd ((if_neg h1).trans (if_neg h2)) h
  have away : ∀ b, two b ≠ none → K.lookup b = none := fun b h => by
    by_cases h1 : b = a ∧ K.lookup a = none
    · rw [h1.1]
      exact h1.2
    · by_cases h2 : b = sysModules
      · rw [h2]
        exact sysK
      · exact absurd ((if_neg h1).trans (if_neg h2)) h
  have held : HOk P w two s.heap := fun b u z => by
    by_cases h1 : b = a ∧ K.lookup a = none
    · have e : two b = _ := if_pos h1
      rw [e] at z
      obtain rfl := Option.some.inj z
      rw [h1.1]
      exact ⟨obj, by rw [List.length_map]; exact small, vs, _, rel, obj⟩
    · by_cases h2 : b = sysModules
      · have e : two b = _ := (if_neg h1).trans (if_pos h2)
        rw [e] at z
        obtain rfl := Option.some.inj z
        rw [h2]
        exact ⟨hob, hob, ⟨_, hob⟩, fun h1 h2 e k => k _ e⟩
      · have e : two b = _ := (if_neg h1).trans (if_neg h2)
        rw [e] at z
        cases z
  have sys : Sys K two := by
    by_cases h1 : sysModules = a ∧ K.lookup a = none
    · exact ⟨_, _, if_pos h1⟩
    · exact ⟨_, _, (if_neg h1).trans (if_pos rfl)⟩
  refine endS_from inK mains blts boot noLim gens obj room goesF bind two only held alone away (want two sys ?_)
  cases hk : K.lookup a with
  | some o =>
    have e := inK a o hk
    rw [obj] at e
    obtain rfl := Option.some.inj e
    exact Or.inr ⟨_, vs.toArray, _, hk, rfl, rfl, rfl, by rw [List.size_toArray, numbs.length]; exact small, by simpa using rel⟩
  | none => exact .inl (.inr ⟨_, if_pos ⟨rfl, hk⟩⟩)
end
theorem walk_S {l : PySem.W.OpenLaw} {n k : Nat} {q : Program} {loose : List Str} {XP : (Str → Option Value) → Heap → Prop} {YP : World → Heap → Prop} {d : DefRec} {K : Params → PySem.W.Frag} {sp : PySem.W.Frag → Sp} {x : Str}
    (hn : l.most = some n) (small : n ≤ sizeLine) (plain : d.params.defaults = []) (room : Room k callerA) (hq : importsNone q = true) (hY : ∀ (w : World) (h : Heap), YP w h → (K w.params).In h)
    (F : ∀ (w : World) (mg : Str → Option Value) (fa : Addr) (h : Heap), (K w.params).In h → h.Ns mainGlobals mg → mg d.name = some (.ref fa) →
      ∃ fd : FuncData, (K w.params).lookup sysModules = none ∧ (∀ (s : Shared) (u : Value), BindsTo s fd ⟨[u], []⟩ [(x, u)]) ∧ ∀ base : Heap, (K w.params).In base → base.Ns mainGlobals mg → FnG l.prog w (K w.params) mg base k fa fd [x] (sp (K w.params)))
    (want : ∀ (K : PySem.W.Frag) (H : Hp) (a : Addr) (ns : List Int), ns.length ≤ n → Sys K H → SqL K H a (ns.map V.int) → sp K [.ref a] H (fun v _ => v = .bl true) E0) :
    PySem.W.WalkO q loose XP YP l.row.toRowW d [] (fun f vs => PySem.call f vs) := by
  refine Att.attach_call hn plain fun w s0 s1 mg mb fa o pm cd doc a vs ns ground told ho hd hcd hmg obj numbs many gens => ?_
  have inK := hY w _ told
  obtain ⟨fd, sysK, bind, goesF⟩ := F w mg fa _ inK ground.T.g hmg
  exact endS_call inK ground.T.g ground.T.b ground.T.builtins ground.T.nolimit gens obj numbs (Nat.le_trans many small) room sysK (ground.T.seer hq) goesF bind fun H S held => want (K w.params) H a ns many S held
end LG
/-! ### t.index(x), t a tuple of flat items -/
namespace LG
open PySem PySem.Spec PyProof.Rows L2
def rIndexT (K : PySem.W.Frag) : V → List V → Hp → VK → Prop := fun x xs H Q => ∃ (a : Addr) (ys : List V) (y : V) (j : Nat) (z : V), x = V.ref a ∧ xs = [y] ∧ SqT K H a ys ∧ flatV y = true ∧ ys.all flatV = true ∧ ys[j]? = some z ∧ eqV z y = true ∧
  (∀ (m : Nat) (z' : V), m < j → ys[m]? = some z' → eqV z' y = false) ∧ Q (.int (j : Nat)) H
theorem mt_indexT {X : Cx} : MtR X "tuple.index" (rIndexT X.K) := by
  intro pins s σ H x xs v us Q I rel0 rels h
  obtain ⟨a, ys, y, j, z, rfl, rfl, sq, flatY, flatYs, zAt, zEq, none, q⟩ := h
  cases rel0
  cases rels with
  | cons relY relT =>
    rename_i uvY uvT
    cases relT
    obtain ⟨items2, rel, ⟨⟨cls, dd, data, sl⟩, oAt, cl, n, dat⟩, long⟩ := I.tuple sq
    simp only at cl dat
    subst cl dat
    obtain ⟨uv, uvAt, uvRel⟩ := rel.get zAt
    obtain ⟨jLt, jEq⟩ := List.getElem?_eq_some_iff.mp uvAt
    have lens := rel.length
    have jIn : j < items2.toArray.size := by simpa using jLt
    refine call_meets PySem.F.slot_tuple_index ⟨_, oAt, rfl⟩ PySem.F.entry_tuple_index (PySem.F.args_tuple_index_2 _ _)
      (TI.tuple_indexAt a items2.toArray n dd sl uvY (eqU y) j jIn ?_ ?_) ⟨oAt, fun u' hu' => mem_eqAt relY flatY rel flatYs u' (by simpa using hu'), ?_⟩
    · have same : items2.toArray[j] = uv := by simpa using jEq
      rw [same, eqU_of uvRel (flat_at flatYs zAt)]
      exact zEq
    · intro m mIn mLt
      have mIn2 : m < items2.length := by simpa using mIn
      have mIn3 : m < ys.length := by omega
      have yAt : ys[m]? = some ys[m] := List.getElem?_eq_getElem mIn3
      obtain ⟨uv2, uv2At, uv2Rel⟩ := rel.get yAt
      obtain ⟨_, mEq⟩ := List.getElem?_eq_some_iff.mp uv2At
      have same : items2.toArray[m] = uv2 := by simpa using mEq
      rw [same, eqU_of uv2Rel (flat_at flatYs yAt)]
      exact none m _ mLt yAt
    · exact ⟨.int (j : Nat), H, I.tok _, ⟨_, rfl⟩, q⟩
end LG
/-! ### where an exception is handled: tuples walked, defs called, isinstance -/
namespace LG
open PySem PySem.Spec PyProof.Rows L2 L2H HotX
section
variable {prog : Program} {w : World} {A : Around} {E : Value → Shared → Prop} {s : Shared}
theorem tuple_end_hot {it t x1 : Addr} {i : Nat} {items} {Q : Option Value → Shared → Prop} (warm : HotAt A x1 s.heap)
    (iterAt : s.heap.IsTupleIter it t i) (tupAt : s.heap.IsTuple t items) (out : items[i]? = none)
    (hQ : ∀ h', Heap.ExtBut it s.heap h' → Q none { s with heap := h' }) : wpAny (model prog w) A (pyNext (.ref it)) Q E s := by
  obtain ⟨o, oAt, cl, dat⟩ := id iterAt
  obtain ⟨ot, otAt, _, nl, otDat⟩ := tupAt
  obtain ⟨hand, eo, ev, eAt, eDat, eCtx⟩ := warm
  have apart : it ≠ x1 := fun e => by
    rw [e, eAt] at oAt
    obtain rfl := Option.some.inj oAt
    rw [eDat] at dat
    have e2 : ev = _ := Data.fields.inj dat
    rw [e2] at eCtx
    simp at eCtx
  unfold pyNext
  refine wpAny_bind (wpAny_attempt (wpAny_callSpecial?_slot (name := Str.ofString "__next__") iterAt.typeIs F.slot_tuple_iterator_next
    (wpAny_call_entry F.slot_tuple_iterator_next iterAt.typeIs F.entry_tuple_iterator_next ?_ (F.args_tuple_iterator_next_1 _))))
  show wpAny _ _ (field (.ref it) 0 >>= _) _ _ s
  refine wpAny_bind (wpAny_field oAt dat (x := .ref t) rfl ?_)
  show wpAny _ _ (if (Value.ref t == Value.none) = true then _ else _) _ _ s
  rw [if_neg (show ¬ ((Value.ref t == Value.none) = true) from Bool.false_ne_true)]
  show wpAny _ _ (field (.ref it) 1 >>= _) _ _ s
  refine wpAny_bind (wpAny_field oAt dat (x := .int i 0) rfl ?_)
  show wpAny _ _ (seqItems? (.ref t) >>= _) _ _ s
  refine wpAny_bind (wpAny_seqItems otAt otDat ?_)
  simp only [Int.toNat_natCast, out]
  refine wpAny_bind (wpAny_rule (wpAny_bind (wpAny_setField oAt dat (by simp) ?_)))
  show wpAny _ _ (newExc (.type "StopIteration") [] >>= _) _ _ _
  refine wpAny_bind ?_
  simp only [newExc, newTuple]
  refine wpAny_bind (wpAny_newObj_type ?_ (by size_fits))
  refine wpAny_bind (m := firstArgMember _ _) (wpAny_of_eq (a := Value.none) (by first | rfl | (simp only [firstArgMember]; rfl)) ?_)
  refine wpAny_newObj_type ?_ (by size_fits)
  have eAt2 := (Heap.get?_update_other s.heap (Obj.mapFields (·.setIfInBounds 0 Value.none)) apart).trans eAt
  refine raiseNew_hot ⟨hand, eo, ev, Heap.get?_push_of_some _ (Heap.get?_push_of_some _ eAt2), eDat, eCtx⟩ (Nat.ne_of_lt (Heap.lt_size (Heap.get?_push_of_some _ eAt2))) (Heap.get?_push_size _ rfl) rfl (by first | (simp; done) | (simp; omega) | (simp only [Array.size_append]; simp; omega)) ?_
  refine wpAny_bind (wpAny_isInstance (T := "StopIteration") (b := true) ⟨_, Heap.get?_update_self _ (Heap.get?_push_size _ rfl) rfl, rfl⟩ isSubtype_stop ?_)
  refine wpAny_pure (hQ _ fun b o far e => ?_)
  have kept := (Heap.get?_update_other s.heap (Obj.mapFields (·.setIfInBounds 0 Value.none)) (Ne.symm far)).trans e
  rw [Heap.get?_update_other _ _ (Nat.ne_of_gt (Heap.lt_size (Heap.get?_push_of_some _ kept)))]
  exact Heap.get?_push_of_some _ (Heap.get?_push_of_some _ kept)
end
theorem turn_tupleH {P : Program} {w : World} {K : PySem.W.Frag} {tg : Expr} (a it : Addr) : TurnH P w K tg (Itt K a) [it] it (fun i h => h.IsTupleIter it a i) where
  mem := (turn_tuple (P := P) (w := w) (K := K) (tg := tg) a it).mem
  obj := (turn_tuple (P := P) (w := w) (K := K) (tg := tg) a it).obj
  keep := (turn_tuple (P := P) (w := w) (K := K) (tg := tg) a it).keep
  item := by
    intro X pEq wEq kEq cl i pins s σ H E I lie turnAt more
    subst pEq wEq kEq
    obtain ⟨xs, x, sq, out⟩ := more
    obtain ⟨items2, rel, p, len⟩ := I.tuple sq
    obtain ⟨uv, uvAt, uvRel⟩ := rel.get out
    obtain ⟨z0, z1, z2, z3, z4, z5⟩ := lie it (by simp)
    refine wpAny_pyNext_tuple_item turnAt (show s.heap.IsTuple a items2.toArray from p) (x := uv) (by simpa using uvAt) fun h' st' same => ?_
    have J1 : Inv X pins σ H { s with heap := h' } := I.turned (t' := s.toks) (fun b o far e => (same.2 b far).trans e) z0 z1 z3 z4 z5
    obtain ⟨o, e, c, d⟩ := id st'
    exact ⟨uv, rfl, go_of (s := { s with heap := h' }) e c d (by decide) ⟨x, H, J1, uvRel, ⟨rfl, fun ys hy => by rw [I.tuple_inj hy sq]; exact out⟩, st', fun b far => (lie b far).1⟩⟩
  done := by
    intro X pEq wEq kEq cl i pins s σ H E I lie turnAt more
    subst pEq wEq kEq
    obtain ⟨xs, sq, out⟩ := more
    obtain ⟨items2, rel, p, len⟩ := I.tuple sq
    obtain ⟨z0, z1, z2, z3, z4, z5⟩ := lie it (by simp)
    have long := rel.length
    obtain ⟨x1, warm⟩ := cl.at I
    exact tuple_end_hot warm turnAt (show s.heap.IsTuple a items2.toArray from p) (by simp; omega) fun h' ext => ⟨rfl, I.turned (t' := s.toks) (fun b o far e => ext b o far e) z0 z1 z3 z4 z5⟩
  self := (turn_tuple (P := P) (w := w) (K := K) (tg := tg) a it).self
theorem pi_tupH {X : Cx} {tg l : Expr} {tl : TE} (long : PE X l tl) : PIH X tg l (iTup X.K tl) := by
  refine ⟨fun pins s σ H R I h => ?_⟩
  refine thn (long.run pins s σ H _ I h) fun v s1 ⟨x, H1, J1, rel1, ask1⟩ => ?_
  obtain ⟨a, e, ⟨xs, sq⟩, q⟩ := ask1
  subst e
  cases rel1
  obtain ⟨items2, rel, p, len⟩ := J1.tuple sq
  refine wpAny_pyIter_tuple (show s1.heap.IsTuple a items2.toArray from p) ?_
  refine ⟨s1.heap.objs.size, [s1.heap.objs.size], _, _, H1, rfl, J1.kept (t' := s1.toks) fun b o e => Heap.get?_push_of_some _ e, turn_tupleH a _, ⟨_, Heap.get?_push_size _ rfl, rfl, rfl⟩, fun b far => ?_, q⟩
  have e : b = s1.heap.objs.size := by simpa using far
  subst e
  exact J1.fpOk (Nat.le_refl _) (J1.hok.fresh (Nat.le_refl _))
/-- what a def promises where the exception p is handled -/
structure FnE (P : Program) (w : World) (K : PySem.W.Frag) (mg : Str → Option Value) (base : Heap) (k : Nat) (f : Addr) (fd : FuncData) (ps : List Str) (sp : Addr × Obj → Sp) : Prop where
  len : ∀ p vs H Q E, sp p vs H Q E → vs.length = ps.length
  run : ∀ (A : Around) (outer : List Env) (s : Shared) (H : Hp) (us : List Value) (vs : List V) (Q : VK) (E : XK) (p : Addr × Obj), RoomH k A → Hot1 A p → PinOk outer H s p → Env0 P w K mg base A outer s H → BindsTo s fd ⟨us, []⟩ (ps.zip us) → Vals vs us → sp p vs H Q E →
    codeAny (model P w) A (.call (.ref f) ⟨us, []⟩) (CR CX0 outer P w H s Q E) s
theorem FnE.by {P : Program} {w : World} {K : PySem.W.Frag} {mg : Str → Option Value} {base : Heap} {k : Nat} {x qual : Str} {turnAt : Stmt} {f : Addr} {fd : FuncData} {N ps : List Str} {sp : Addr × Obj → Sp} (F : Fun K x qual turnAt f fd) (S : FnScope N ps (defScope turnAt)) (len : ∀ p vs H Q E, sp p vs H Q E → vs.length = ps.length)
    (hbody : ∀ (cdv : Value) (A : Around) (outer : List Env) (s : Shared) (H : Hp) (vs : List V) (Q : VK) (E : XK) (p : Addr × Obj), Hot1 A p → RoomH k (A.deeper (envOfC qual (defScope turnAt) s.heap.objs.size f cdv)) → sp p vs H Q E →
      ∃ t, PSs (cxH CX0 P w K mg base N qual (defScope turnAt) f cdv A outer s H E p).nox (defBody turnAt) t ∧ t { nx := fun _ H' => Q .non H', rt := Q } (L2.start N vs) H) :
    FnE P w K mg base (k + 1) f fd ps sp := by
  obtain ⟨_, _, _, _, _, _, cdv, _, _, rfl, look, code⟩ := F.ex
  refine ⟨len, fun A outer s H us vs Q E p room warm pinned env0 far r asks => ?_⟩
  have long := len _ _ _ _ _ asks
  have inK : K.In s.heap := env0.mod.kin.keeps fun b o e => (env0.bs b o e).1
  have noLim : s.heap.NoLimit := env0.mod.nolimit.keeps fun b o e => (env0.bs b o e).1
  have kinds : ∀ y ∈ ps.zip us, (defScope turnAt).names.lookup y.1 = some .local ∨ ((defScope turnAt).names.lookup y.1 = some .cell ∧ ((cellsFrom (s.heap.objs.size + 1) (defScope turnAt).names []).lookup y.1).isSome = true) := fun ⟨n, v⟩ hy => by
    rcases S.par n (List.of_mem_zip hy).1 with q | q
    · exact .inl q
    · exact .inr ⟨q, PySem.W.cellsFrom_some _ _ _ (.inl q)⟩
  refine codeAny_call_function room.depth (inK _ _ look) rfl S.co S.gen rfl (PySem.W.codeRec_of inK code) (far _ _ _ _ ?_)
  refine wpAny_newFunctionEnv_cells S.kind kinds fun env he s1 x => ?_
  subst he
  refine ⟨noLim.keeps x.toInCall.keep, codeAny_func ?_⟩
  obtain ⟨t, tupAt, sq⟩ := hbody cdv A outer s H vs Q E p warm (room.deeper _) asks
  have I : Inv (cxH CX0 P w K mg base N qual (defScope turnAt) f cdv A outer s H E p) [] (L2.start N vs) H s1 := inv_startH S pinned env0 long r x
  refine wpAny_mono (tupAt.nox.run [] s1 (L2.start N vs) H _ I sq) (fun fl s' got => ?_) fun _ _ bad => bad
  have fin : ∀ {σ' : L2.St} {H' : Hp} {v : V} {uv : Value}, Inv (cxH CX0 P w K mg base N qual (defScope turnAt) f cdv A outer s H E p) [] σ' H' s' → RelV v uv → Q v H' → CE outer P w H s Q uv s' :=
    fun {σ' H' v uv} J rel q => ⟨v, H', J.os, J.bare, J.base, J.hok, rel, q⟩
  cases fl with
  | ret uv =>
    obtain ⟨v, σ', H', J, rel, q⟩ := got
    exact fin J rel q
  | next =>
    obtain ⟨σ', H', J, q⟩ := got
    exact fin (v := V.non) (uv := Value.none) J rfl q
  | brk =>
    obtain ⟨_, _, _, q⟩ := got
    exact False.elim q
  | cont =>
    obtain ⟨_, _, _, q⟩ := got
    exact False.elim q
end LG
namespace LG
open PySem PySem.Spec PyProof.Rows L2 L2H HotX
section
variable {P : Program} {w : World} {K : PySem.W.Frag} {mg : Str → Option Value} {base : Heap}
theorem hot1_deeper {A : Around} {p : Addr × Obj} {env : Env} (h : Hot1 A p) : Hot1 (A.deeper env) p := h
theorem hotC_cx {CX : CXT} {N : List Str} {qual : Str} {scope : Scope} {f : Addr} {cd : Value} {A : Around} {outer : List Env} {s : Shared} {H : Hp} {E : XK} {p : Addr × Obj} (h : Hot1 A p) : HotC (cxH CX P w K mg base N qual scope f cd A outer s H E p).nox := ⟨p, hot1_deeper h, List.mem_cons_self⟩
structure HasE (P : Program) (w : World) (K : PySem.W.Frag) (mg : Str → Option Value) (base : Heap) (k : Nat) (x : Str) (ps : List Str) (sp : Addr × Obj → Sp) : Prop where
  ex : ∃ (f : Addr) (fd : FuncData), FnE P w K mg base k f fd ps sp ∧ mg x = some (.ref f) ∧ PySem.W.keepIn K (.ref f) = true ∧ Binds K fd ps []
theorem Def.hasE {k : Nat} {x : Str} {ps : List Str} {sp : Addr × Obj → Sp} {st : Stmt} (d : Def K mg x st ps) (h : ∀ (f : Addr) (fd : FuncData), Fun K x x st f fd → FnE P w K mg base k f fd ps sp) : HasE P w K mg base k x ps sp := by
  obtain ⟨f, fd, F, m, b⟩ := d.ex
  exact ⟨f, fd, h f fd F, m, F.kp, b⟩
end
section
variable {X : Cx} {k j : Nat} {ps : List Str} {sp : Addr × Obj → Sp} {x : Str} {q pos : Pos} {e : Expr} {es : List Expr} {t : TA} {p : Addr × Obj}
theorem run_fnE {f : Addr} {fd : FuncData} {pins : List (Addr × Obj)} {σ : L2.St} {H : Hp} {s : Shared} {Q : VK} {us : List Value} {vs : List V} (F : FnE X.prog X.w X.K X.mg X.base k f fd ps sp) (room : RoomH k X.A) (hot : Hot1 X.A p) (hp : p ∈ X.pn) (hb : Binds X.K fd ps [])
    (I : Inv X pins σ H s) (r : Vals vs us) (h : sp p vs H Q E0) : wpAny (model X.prog X.w) X.A (call (.ref f) us) (EP X pins σ Q) X.xe s := by
  have long : us.length = ps.length := by rw [← r.length]; exact F.len _ _ _ _ _ h
  have b := hb s us I.kIn (by rw [List.append_nil]; exact long)
  rw [List.append_nil] at b
  have pin1 := I.pin p (List.mem_append_left _ hp)
  have pinned : PinOk X.stack H s p := ⟨pin1.1, pin1.2.1, fun hm => (List.mem_cons.mp (I.stkSub p.1 hm)).elim pin1.2.2.1 pin1.2.2.2.1, pin1.2.2.2.2⟩
  refine wpAny_call (codeAny_mono (F.run X.A X.stack s H us vs Q E0 p room hot pinned I.env0 b r h) fun r s' got => ?_)
  cases r with
  | error e => exact False.elim got
  | ok fl =>
    cases fl with
    | ret u => exact I.after got
    | next => exact False.elim got
    | brk => exact False.elim got
    | cont => exact False.elim got
/-- items2 call, where p is handled -/
theorem pcH (h : HasE X.prog X.w X.K X.mg X.base k x ps sp) (room : RoomH j X.A) (hot : Hot1 X.A p) (hp : p ∈ X.pn) (ha : PA X (e :: es) t) (hg : Gl X x := by rfl) (hj : k ≤ j := by first | decide | omega) (dbg : (x == ("__debug__" : Str)) = false := by decide)
    (each : starEach (e :: es) X.env = (false, eval e X.env) :: starEach es X.env := by rfl) (plain1 : (backTo pos (starEach es X.env)).any (·.1) = false := by rfl) : PE X (.Call (.Name x q) (e :: es) [] pos) (tCall (sp p) [] E0 t) := by
  obtain ⟨f, fd, F, m, keeps, b⟩ := h.ex
  refine ⟨fun pins s σ H Q I h => ?_⟩
  refine wpAny_Call_Name_kw (ld_glob I hg m ?_ dbg)
  refine PySem.W.callWith_K (h₀ := X.base) I.ok.mod.kin keeps (thn (ha.run pos pins s σ H _ I h) fun us s1 ⟨vs, H1, J1, r, q⟩ => ⟨J1.kIn, ?_⟩) each plain1
  refine run_fnE F (room.mono hj) hot hp b J1 r ?_
  have q' : sp p (vs ++ []) H1 Q E0 := q
  rw [List.append_nil] at q'
  exact q'
/-- isinstance(e, c), e the exception that is handled -/
theorem call_isP {a D : Addr} {oe : Obj} (C : ExcC X.K D) (hp : (a, oe) ∈ X.pn) (len : Zc (.ref D) none oe) (flds : ∃ vs, oe.data = .fields vs) : CallR X (.builtin "isinstance") (rIsE X.K D a) := by
  intro pins s σ H xs us Q I r h
  obtain ⟨c, cv, b, rfl, only, e, q⟩ := h
  cases r with
  | cons rel0 rest =>
    cases rest with
    | cons rel1 rest =>
      cases rest
      cases rel0
      have same := only _ rel1
      subst same
      obtain ⟨at1, _⟩ := I.pin (a, oe) (List.mem_append_left _ hp)
      obtain ⟨vs, dat⟩ := flds
      have J : PySem.W.InstAt s.heap a oe D none := by
        obtain ⟨oc, od, oda, osl⟩ := oe
        obtain ⟨eq1, eq2⟩ := len
        dsimp only at eq1 eq2 dat
        subst eq1 eq2 dat
        exact ⟨at1, rfl, rfl, trivial⟩
      exact PySem.W.kia_one (PySem.W.handS_kitx_exc C.hg C.hk C.hs C.hd C.ha C.hn C.ht C.hm) I.kIn J e (fun z => nomatch z) fun tk => ⟨.bl b, H, I.kept (t' := tk) fun _ _ z => z, rfl, q⟩
end
def rLenS (K : PySem.W.Frag) : List V → Hp → VK → Prop := fun xs H Q => ∃ p ys, xs = [V.ref p] ∧ (SqL K H p ys ∨ SqT K H p ys) ∧ Q (.int ys.length) H
/-! ### tuples that are known to have no dict of their own -/
def Nd (H : Hp) (t : Addr) : Prop := ∃ ob xs, H t = some (.frz ob (.tup xs)) ∧ ob.dict = none
theorem Nd.stay {H H' : Hp} {t : Addr} (s : TupsStay H H') (h : Nd H t) : Nd H' t := by
  obtain ⟨ob, xs, e, d⟩ := h
  exact ⟨ob, xs, s _ _ (.inr ⟨_, _, rfl⟩) e, d⟩
/-- all references of these values are such -/
def NdAll (H : Hp) (xs : List V) : Prop := ∀ t, V.ref t ∈ xs → Nd H t
theorem NdAll.stay {H H' : Hp} {xs : List V} (s : TupsStay H H') (h : NdAll H xs) : NdAll H' xs := fun t ht => (h t ht).stay s
section
variable {X : Cx}
theorem call_tuple_ofN : CallR X (.type "tuple") (fun xs H Q => ∃ p ys, xs = [.ref p] ∧ SqL X.K H p ys ∧ ∀ l ob, H l = none → ob.dict = none → Q (.ref l) (upd H l (.frz ob (.tup ys)))) := by
  intro pins s σ H xs us Q I r h
  obtain ⟨p, ys, rfl, got, q⟩ := h
  obtain ⟨u, rfl, rel0⟩ := vals1 r
  cases rel0
  obtain ⟨items2, rel', place, len⟩ := I.list got
  have long := rel'.length
  refine call_tuple_list place.isList (fun h' keeps => ?_) (by simp only [List.size_toArray] <;> omega)
  have J1 : Inv X pins σ H { s with heap := h' } := I.kept (t' := s.toks) keeps
  have J2 : Inv X pins σ (upd H h'.objs.size (.frz { cls := .type "tuple", data := .seq items2.toArray } (.tup ys))) { s with heap := h'.push { cls := .type "tuple", data := .seq items2.toArray } } :=
    J1.laid (t' := s.toks) (fun b o e => Heap.get?_push_of_some _ e) (Nat.le_refl _) (show ObjOk X.prog X.w _ _ _ (.frz _ (.tup ys)) from ⟨Heap.get?_push_size _ rfl, len, items2, rel', IsTup.new _ _⟩)
  exact ⟨.ref h'.objs.size, _, J2, rfl, q _ _ (J1.hok.fresh (Nat.le_refl _)) rfl⟩
def tBMN (K : PySem.W.Frag) (r : V → List V → Hp → VK → Prop) (to : TE) (t : TA) : TE := fun σ H Q => to σ H fun x H1 => (∃ a, x = .ref a ∧ Nd H1 a) ∧ t σ H1 fun xs H2 => r x xs H2 Q
theorem pe_bmN {o e : Expr} {es : List Expr} {to : TE} {t : TA} {name : Str} {apos cpos : Pos} {id : String} {r : V → List V → Hp → VK → Prop} (slot : Slot "tuple" name id) (hty : typeOf (.builtin id) = pure (.type "method_descriptor")) (hm : MtR X id r) (ho : PE X o to) (ha : PA X (e :: es) t)
    (hbase : attributeBase o name X.env (eval o X.env) = eval o X.env := by rfl)
    (hfew : ((backTo cpos (starEach (e :: es) X.env)).all (fun x => !x.1) && (backToKw cpos (keywordEach [] X.env)).all (fun x => x.1.isSome)
      && decide ((e :: es).length + ([] : List Keyword).length + (if ([] : List Keyword).isEmpty then 0 else 1) < 30)) = true := by rfl)
    (hline : (apos.endLine == cpos.line) = true := by rfl) (hs : starEach (e :: es) X.env = (false, eval e X.env) :: starEach es X.env := by rfl) (hplain : (backTo cpos (starEach es X.env)).any (·.1) = false := by rfl) :
    PE X (.Call (.Attribute o name apos) (e :: es) [] cpos) (tBMN X.K r to t) := by
  refine ⟨fun pins s σ H Q I h => ?_⟩
  refine wpAny_Call_method_late hbase hfew hline rfl (thn (ho.run pins s σ H _ I h) fun v s1 ⟨x, H1, J1, rel2, ty, ask1⟩ => ?_)
  obtain ⟨a, rfl, ob, xs, hk, hd⟩ := ty
  have ok : ObjOk X.prog X.w H1 s1.heap a (.frz ob (.tup xs)) := J1.hok a _ hk
  obtain ⟨e1, _, items2, _, o2, e2, c2, _⟩ := ok
  rw [e1] at e2
  obtain rfl := Option.some.inj e2
  obtain rfl : v = .ref a := rel2
  refine ⟨"tuple", id, PySem.F.plainAttrs_tuple, slot, hty, ⟨ob, e1, c2⟩, fun b e => ?_, ?_⟩
  · cases e
    exact ⟨ob, e1, hd⟩
  have args1 := ha.run cpos pins s1 σ H1 _ J1 ask1
  rw [hs] at args1 ⊢
  refine Calls.callWith_builtin (by show (false || (backTo cpos (starEach es X.env)).any (·.1)) = false; rw [hplain] <;> rfl) (Calls.evalArgs_plain ?_)
  exact thn args1 fun us s2 ⟨vs, H2, J2, rel3, ask2⟩ => hm pins s2 σ H2 (.ref a) vs (.ref a) us Q J2 rfl rel3 ask2
/-- sorted of rows that have no dict of their own: neither have the rows then -/
def rSortN (K : PySem.W.Frag) : List V → Hp → VK → Prop := fun vs H Q => ∃ (a : Addr) (xs : List V) (rs : List (List Int)), vs = [V.ref a] ∧ SqL K H a xs ∧ DtAll K H xs (rs.map tupI) ∧ NdAll H xs ∧ rs.length ≤ 1000 ∧ (∀ r ∈ rs, r ≠ []) ∧
  ∀ (ys : List V) (p : Addr), H p = none → DtAll K H ys ((rs.mergeSort leR).map tupI) → NdAll H ys → Q (.ref p) (upd H p (.lst ys))
theorem each_ofN {K : PySem.W.Frag} {H : Hp} : ∀ {rs : List (List Int)} {xs : List V} {us : List Value}, DtAll K H xs (rs.map tupI) → NdAll H xs → Vals xs us → PySem.W.EachIs (fun u r => ∃ t, u = Value.ref t ∧ SqT K H t (r.map V.int) ∧ Nd H t) us rs
  | [], _, _, h, _, r => by
    cases h
    cases r
    exact .nil
  | b :: bs, _, _, h, nd, r => by
    cases h with
    | cons eq1 eq2 =>
      cases r with
      | cons rel2 rel3 =>
        refine .cons ?_ (each_ofN eq2 (fun t ht => nd t (List.mem_cons_of_mem _ ht)) rel3)
        cases eq1 with
        | @tup a ys ds hs ha =>
          cases rel2
          refine ⟨a, rfl, ?_, nd a List.mem_cons_self⟩
          have e : ys = b.map V.int := by
            clear hs eq2 rel3
            induction b generalizing ys with
            | nil => cases ha; rfl
            | cons x b ih =>
              cases ha with
              | cons h h' =>
                cases h
                rw [List.map_cons, ← ih h']
          rw [← e]
          exact hs
theorem each_backN {K : PySem.W.Frag} {H : Hp} : ∀ {rs : List (List Int)} {us : List Value}, PySem.W.EachIs (fun u r => ∃ t, u = Value.ref t ∧ SqT K H t (r.map V.int) ∧ Nd H t) us rs → ∃ ys, Vals ys us ∧ DtAll K H ys (rs.map tupI) ∧ NdAll H ys
  | [], _, .nil => ⟨[], .nil, .nil, fun t ht => absurd ht List.not_mem_nil⟩
  | b :: bs, _, .cons ⟨t, e, h, n⟩ r => by
    obtain ⟨ys, v, d, nd⟩ := each_backN r
    subst e
    refine ⟨.ref t :: ys, .cons rfl v, .cons (.tup h (DtAll.ints b)) d, fun t' ht => ?_⟩
    rcases List.mem_cons.mp ht with q | q
    · cases q
      exact n
    · exact nd t' q
theorem cr_sortN (hu : X.A.units + 64 < cLine) : CallR X (.builtin "sorted") (rSortN X.K) := by
  intro pins s σ H vs us Q I r h
  obtain ⟨a, xs, rs, rfl, hs, hd, hnd, len, ne, q⟩ := h
  obtain ⟨items2, rv, long, hz2⟩ := I.list hs
  rw [Vals.ref1 r]
  have ea := each_ofN hd hnd rv
  have er : PySem.W.EachIs (fun v b => ∃ as, Reads s.heap v (tupI b) as) items2 rs := ea.mono fun u b ⟨t, e, ht, _⟩ => by
    subst e
    exact Dp.reads I _ _ _ (dp_row ht) rfl
  have al : PySem.W.AllAlike (rs.map tupI) := fun d hd d' hd' => by
    obtain ⟨x, _, rfl⟩ := List.mem_map.mp hd
    obtain ⟨y, _, rfl⟩ := List.mem_map.mp hd'
    exact row_alike x y
  have so : PySem.W.Sortable (rs.map tupI) := .inl fun d hd => by
    obtain ⟨x, hx, rfl⟩ := List.mem_map.mp hd
    cases x with
    | nil => exact absurd rfl (ne _ hx)
    | cons i x => exact ⟨_, _, rfl⟩
  refine PySem.W.sorted_data long.isList ea er al so (Nat.le_trans len (by decide)) (fun b _ => by rw [row_depth]; omega) fun out long hout => ?_
  have eo : PySem.W.dataLe false tupI = leR := by
    rw [PySem.W.dataLe_eq]
    funext x y
    simp only [cond_false, row_lt]
    rfl
  rw [eo] at hout
  obtain ⟨ys, vy, dy, ny⟩ := each_backN hout
  obtain ⟨ep, he'⟩ := PyProof.Rows.sortedAll_at s.heap items2 out.toArray
  have len : ys.length ≤ sizeLine := by
    rw [vy.length, long]
    exact Nat.le_trans len (by decide)
  exact ⟨.ref _, upd H (s.heap.objs.size + 1) (.lst ys), I.laid (t' := s.toks) (fun _ _ => PyProof.Rows.sortedAll_old) (Nat.le_succ _) ⟨len, out, ep, vy, he'⟩, rfl, q _ _ (I.hok.fresh (Nat.le_succ _)) dy ny⟩
end
end LG
namespace LG
open PySem PySem.Spec PyProof.Rows L2 L2H HotX
theorem takes0N {X : Cx} : L2N.Takes X (fun _ _ _ _ => False) := fun _ _ x => by
  obtain ⟨_, _, _, _, _, _, _, _, _, _, _, _, _, _, _, _, z⟩ := x
  exact z.elim
section
variable {P : Program} {w : World} {K : PySem.W.Frag} {mg : Str → Option Value} {base : Heap}
theorem _root_.L2.Fun.okXN {x qual : Str} {st : Stmt} {f : Addr} {fd : FuncData} {N ps : List Str} {k : Nat} {sp : Sp} (F : Fun K x qual st f fd) (S : FnScope N ps (defScope st)) (len : ∀ vs H Q E, sp vs H Q E → vs.length = ps.length)
    (hbody : ∀ (cdv : Value) (A : Around) (outer : List Env) (s : Shared) (H : Hp) (vs : List V) (Q : VK) (E : XK), Room k (A.deeper (envOfC qual (defScope st) s.heap.objs.size f cdv)) → sp vs H Q E →
      ∃ t, PSs (cxOf (L2N.CX P w) P w K mg base N qual (defScope st) f cdv A outer s H E) (defBody st) t ∧ t { nx := fun _ H' => Q .non H', rt := Q } (start N vs) H) : FnOk P w K mg base (L2N.CX P w) (k + 1) f fd ps sp := by
  obtain ⟨o0, o1, kV, doc, pm, an, cdv, ct, o2, rfl, look, code⟩ := F.ex
  exact fn_of look code S len fun A outer s H vs Q E hr hsp => hbody cdv A outer s H vs Q E hr hsp
theorem roomH_mark {k : Nat} {A : Around} {v : Option Value} (r : Room k A) : RoomH k (A.mark v) := ⟨r.dp, r.un⟩
theorem hot_suite {A : Around} {a : Addr} {oe : Obj} {cls : Value} {d : Option Addr} (hz : L2N.Zn cls d oe) (hf : ∃ vs, oe.data = .fields vs) : Hot1 (A.mark (some (.ref a))) (a, oe) := by
  obtain ⟨vs, e⟩ := hf
  exact ⟨rfl, vs, e, hz.2.2 vs e⟩
end
section
variable {X : Cx} {k j : Nat} {ps : List Str} {sp : Addr × Obj → Sp} {sp' sp0 : Sp} {x : Str} {q pos : Pos} {e : Expr} {es : List Expr} {t : TA} {p : Addr × Obj} {W : WX}
/-- .., what is asked told by sp' -/
theorem pcHi (h : HasE X.prog X.w X.K X.mg X.base k x ps sp) (hr : RoomH j X.A) (hot : Hot1 X.A p) (hp : p ∈ X.pn) (imp : ∀ vs H Q, sp' vs H Q E0 → sp p vs H Q E0) (ha : PA X (e :: es) t) (hg : Gl X x := by rfl) (hj : k ≤ j := by first | decide | omega) (dbg : (x == ("__debug__" : Str)) = false := by decide)
    (each : starEach (e :: es) X.env = (false, eval e X.env) :: starEach es X.env := by rfl) (plain1 : (backTo pos (starEach es X.env)).any (·.1) = false := by rfl) : PE X (.Call (.Name x q) (e :: es) [] pos) (tCall sp' [] E0 t) := by
  obtain ⟨f, fd, F, m, kp, b⟩ := h.ex
  refine ⟨fun pins s σ H Q I h => ?_⟩
  refine wpAny_Call_Name_kw (ld_glob I hg m ?_ dbg)
  refine PySem.W.callWith_K (h₀ := X.base) I.ok.mod.kin kp (thn (ha.run pos pins s σ H _ I h) fun us s1 ⟨vs, H1, I1, r, q⟩ => ⟨I1.kIn, ?_⟩) each plain1
  refine run_fnE F (hr.mono hj) hot hp b I1 r (imp _ _ _ ?_)
  have q' : sp' (vs ++ []) H1 Q E0 := q
  rw [List.append_nil] at q'
  exact q'
theorem pcSN (h : Has X.prog X.w X.K X.mg X.base (L2N.CX X.prog X.w) k x ps sp0) (hr : Room j X.A) (tk : L2N.Takes X W) (ha : PA X (e :: es) t) (hg : Gl X x := by rfl) (hj : k ≤ j := by first | decide | omega) (dbg : (x == ("__debug__" : Str)) = false := by decide)
    (each : starEach (e :: es) X.env = (false, eval e X.env) :: starEach es X.env := by rfl) (plain1 : (backTo pos (starEach es X.env)).any (·.1) = false := by rfl) : PE X (.Call (.Name x q) (e :: es) [] pos) (tCallS sp0 (WE W) t) := by
  obtain ⟨f, fd, F, m, kp, b⟩ := h.ex
  exact pe_callS F (hr.mono hj) hg m kp b (fun σ => L2N.passAt tk σ) ha dbg each plain1
end
end LG
namespace Lw
open PySem PySem.Spec PyProof.Rows L2 LG
def top (i : Nat) : Stmt := PySem.Challenge.pw_looksfar_k01_check_task.main.body.getD i (.Pass ⟨0, 0, 0, 0⟩)
abbrev sis_number : Stmt := top 11
abbrev sproduct_of : Stmt := top 12
abbrev scheck_task : Stmt := top 19
abbrev sis_task : Stmt := top 20
abbrev sare_labels : Stmt := top 21
abbrev s_are_inputs : Stmt := top 22
abbrev s_are_rows : Stmt := top 23
abbrev sis_row : Stmt := top 24
abbrev s_law_draws : Stmt := top 26
abbrev s_law_take : Stmt := top 27
abbrev s_law_integer : Stmt := top 28
abbrev s_law_rows : Stmt := top 29
abbrev s_law_labels : Stmt := top 30
abbrev s_law_task : Stmt := top 31
abbrev s_law_odd : Stmt := top 32
abbrev s_law_label_changes : Stmt := top 33
abbrev s_law_row_changes : Stmt := top 34
abbrev s_law_rows_changes : Stmt := top 35
abbrev s_law_side_changes : Stmt := top 36
abbrev s_law_changed : Stmt := top 37
abbrev s_law_rows_right : Stmt := top 38
abbrev s_law_right : Stmt := top 39
abbrev s_law_only_bad_task : Stmt := top 40
abbrev s_law_asked : Stmt := top 41
abbrev s_law_all : Stmt := top 42
abbrev slaw : Stmt := top 43
/-- the built-ins that the text uses -/
structure Blt (mg : Str → Option Value) : Prop where
  abs : mg "abs" = none
  int : mg "int" = none
  len : mg "len" = none
  range : mg "range" = none
  tuple : mg "tuple" = none
  isinstance : mg "isinstance" = none
  bool : mg "bool" = none
  repr : mg "repr" = none
  list : mg "list" = none
  all : mg "all" = none
  zip : mg "zip" = none
  sorted : mg "sorted" = none
  str : mg "str" = none
  ValueError : mg "ValueError" = none
/-- the module's constants -/
structure Cst (mg : Str → Option Value) : Prop where
  LEAST_COLOURS : ∃ t, mg "LEAST_COLOURS" = some (.int 2 t)
  MOST_COLOURS : ∃ t, mg "MOST_COLOURS" = some (.int 4 t)
  MOST_INPUTS : ∃ t, mg "MOST_INPUTS" = some (.int 4 t)
  MOST_LABELS : ∃ t, mg "MOST_LABELS" = some (.int 60 t)
  MOST_ROWS : ∃ t, mg "MOST_ROWS" = some (.int 4000 t)
theorem _root_.L2.Room.units2 {k : Nat} {A : Around} (r : L2.Room k A) : A.units + 65 < cLine := by have := r.un; omega
/-! ### what a task is -/
def isNum (d : PyData) (lo hi : Int) : Bool := match d with
  | .int i => decide (lo ≤ i) && decide (i ≤ hi)
  | _ => false
def isInt2 : PyData → Bool
  | .int _ => true
  | .bool _ => true
  | _ => false
def isBool : PyData → Bool
  | .bool _ => true
  | _ => false
def isTup : PyData → Bool
  | .tuple _ => true
  | _ => false
theorem kit_int (d : PyData) : kitB (tyD d) "int" = some (isInt2 d) := by cases d <;> (simp only [tyD, isInt2]; decide +kernel)
theorem kit_bool (d : PyData) : kitB (tyD d) "bool" = some (isBool d) := by cases d <;> (simp only [tyD, isBool]; decide +kernel)
theorem kit_tup (d : PyData) : kitB (tyD d) "tuple" = some (isTup d) := by cases d <;> (simp only [tyD, isTup]; decide +kernel)
theorem isTup_of {d : PyData} (h : isTup d = true) : ∃ ds, d = .tuple ds := by
  cases d <;> first | exact ⟨_, rfl⟩ | cases h
/-- the number of an int -/
def numD : PyData → Int
  | .int i => i
  | _ => 0
/-- the ints of a tuple -/
def intsD : PyData → List Int
  | .tuple ds => ds.map numD
  | _ => []
theorem num_of {d : PyData} {lo hi : Int} (h : isNum d lo hi = true) : d = .int (numD d) ∧ lo ≤ numD d ∧ numD d ≤ hi := by
  cases d with
  | int i =>
    have h' : (decide (lo ≤ i) && decide (i ≤ hi)) = true := h
    rw [Bool.and_eq_true, decide_eq_true_eq, decide_eq_true_eq] at h'
    exact ⟨rfl, h'⟩
  | _ => cases h
def isRow (ls : List Int) : PyData → Bool
  | .tuple ds => decide (ds.length = ls.length) && (ds.zip ls).all fun p => isNum p.1 0 (p.2 - 1)
  | _ => false
def areRows (ls : List Int) : PyData → Bool
  | .tuple rs => (List.range rs.length).all fun at_ => isRow ls (rs.getD at_ .none) && (decide (at_ = 0) || decide (intsD (rs.getD (at_ - 1) .none) < intsD (rs.getD at_ .none)))
  | _ => false
def areInputs (ls : List Int) : PyData → Bool
  | .tuple sides => isNum (.int (sides.length : Nat)) 1 4 && sides.all (areRows ls)
  | _ => false
def prodD (ms : List PyData) : Int := ms.foldl (fun p m => p * numD m) 1
def areLabels (dD dL : PyData) : Bool := isNum dD 2 4 && match dL with
  | .tuple ms => decide (((ms.length : Nat) : Int) = numD dD) && (ms.all (isNum · 1 60) && decide (prodD ms ≤ 4000))
  | _ => false
def isWord (w : PyData) : Bool := match w with
  | .str x => decide (x = "task")
  | _ => false
def isTask : PyData → Bool
  | .tuple [w, dD, dL, dW, dB] => isWord w && (areLabels dD dL && (areInputs (intsD dL) dW && areInputs (intsD dL) dB))
  | _ => false
/-- of a right row the ints -/
theorem row_ints {ls : List Int} {d : PyData} (h : isRow ls d = true) : d = tupI (intsD d) ∧ (intsD d).length = ls.length := by
  cases d with
  | tuple ds =>
    have h' : (decide (ds.length = ls.length) && (ds.zip ls).all fun p => isNum p.1 0 (p.2 - 1)) = true := h
    rw [Bool.and_eq_true, decide_eq_true_eq] at h'
    obtain ⟨e, a⟩ := h'
    have go : ∀ (ds : List PyData) (ls : List Int), ds.length = ls.length → ((ds.zip ls).all fun p => isNum p.1 0 (p.2 - 1)) = true → ds = (ds.map numD).map PyData.int := by
      intro ds
      induction ds with
      | nil => intro _ _ _; rfl
      | cons d ds ih =>
        intro ls e a
        cases ls with
        | nil => cases e
        | cons l ls =>
          rw [List.zip_cons_cons, List.all_cons, Bool.and_eq_true] at a
          rw [List.map_cons, List.map_cons, ← ih ls (by simpa using e) a.2, ← (num_of a.1).1]
    refine ⟨?_, ?_⟩
    · show PyData.tuple ds = .tuple ((ds.map numD).map PyData.int)
      rw [← go ds ls e a]
    · show (ds.map numD).length = _
      rw [List.length_map, e]
  | _ => cases h
theorem labels_ints {ms : List PyData} (h : ms.all (isNum · 1 60) = true) : ms = (ms.map numD).map PyData.int := by
  induction ms with
  | nil => rfl
  | cons m ms ih =>
    rw [List.all_cons, Bool.and_eq_true] at h
    rw [List.map_cons, List.map_cons, ← ih h.2, ← (num_of h.1).1]
theorem prod_more (ms : List PyData) (m : PyData) : prodD (ms ++ [m]) = prodD ms * numD m := by
  unfold prodD
  rw [List.foldl_append]
  rfl
theorem prod_le : ∀ (ms : List PyData), ms.all (isNum · 1 60) = true → 1 ≤ prodD ms ∧ prodD ms ≤ 60 ^ ms.length := by
  intro ms
  have go : ∀ (ms : List PyData) (p : Int) (n : Nat), 1 ≤ p → p ≤ 60 ^ n → ms.all (isNum · 1 60) = true → 1 ≤ ms.foldl (fun p m => p * numD m) p ∧ ms.foldl (fun p m => p * numD m) p ≤ 60 ^ (n + ms.length) := by
    intro ms
    induction ms with
    | nil => exact fun p n h1 h2 _ => ⟨h1, h2⟩
    | cons m ms ih =>
      intro p n h1 h2 a
      rw [List.all_cons, Bool.and_eq_true] at a
      obtain ⟨_, l1, l2⟩ := num_of a.1
      have q1 : 1 ≤ p * numD m := by
        have := Int.mul_le_mul (show (1 : Int) ≤ p from h1) l1 (by decide) (by omega)
        omega
      have q2 : p * numD m ≤ 60 ^ (n + 1) := by
        rw [Int.pow_succ]
        exact Int.mul_le_mul h2 l2 (by omega) (by exact Int.le_of_lt (Int.pow_pos (by decide)))
      have r := ih (p * numD m) (n + 1) q1 q2 a.2
      rw [List.foldl_cons, List.length_cons, show n + (ms.length + 1) = n + 1 + ms.length by omega]
      exact r
  intro a
  have r := go ms 1 0 (by decide) (by decide) a
  rw [Nat.zero_add] at r
  exact r
section
variable {P : Program} {w : World} {K : PySem.W.Frag} {mg : Str → Option Value} {base : Heap}
theorem ints_vs {M : Addr → Prop} {H : Hp} : ∀ {ls : List Int} {xs : List V}, DnAll M K H xs (ls.map PyData.int) → xs = ls.map V.int
  | [], _, h => by
    cases h
    rfl
  | l :: ls, _, h => by
    cases h with
    | cons h1 h2 =>
      cases h1
      rw [List.map_cons, ← ints_vs h2]
theorem itz_walk {a b : Addr} {xs ys : List V} {B : (Hp → Prop) → V → Hp → Prop} {H0 : Hp} {Qd : Hp → Prop} (hl : xs.length = ys.length) (Pv : Nat → Hp → Prop) (h0 : Pv 0 H0) (hq : ∀ i H, Pv i H → SqT K H a xs ∧ SqT K H b ys)
    (hs : ∀ (i : Nat) (x y : V) (T : Addr) (H : Hp), xs[i]? = some x → ys[i]? = some y → Pv i H → H T = none → B (Pv (i + 1)) (.ref T) (upd H T (.tup [x, y]))) (hd : ∀ H, Pv xs.length H → Qd H) :
    ∃ W : Nat → Nat → Hp → Prop, (∃ m, W 0 m H0) ∧ ∀ i m H, W i m H →
      ((RZ.ItzT K a b).stop i H ∧ Qd H) ∨ ((RZ.ItzT K a b).go i H ∧ ∃ Nx : Hp → Prop, (∀ H', Nx H' → ∃ m', m' < m ∧ W (i + 1) m' H') ∧ ∀ x H', (RZ.ItzT K a b).yld i H x H' → B Nx x H') := by
  refine ⟨fun i m H => m = xs.length - i ∧ i ≤ xs.length ∧ Pv i H, ⟨xs.length, rfl, Nat.zero_le _, h0⟩, ?_⟩
  rintro i m H ⟨rfl, hi, p⟩
  obtain ⟨qx, qy⟩ := hq i H p
  by_cases hlt : i < xs.length
  · have hx : xs[i]? = some xs[i] := List.getElem?_eq_getElem hlt
    have hlt2 : i < ys.length := by omega
    have hy : ys[i]? = some ys[i] := List.getElem?_eq_getElem hlt2
    refine .inr ⟨⟨xs, ys, _, _, qx, qy, hx, hy⟩, Pv (i + 1), fun H' p' => ⟨xs.length - (i + 1), by omega, rfl, hlt, p'⟩, fun v H' y => ?_⟩
    obtain ⟨T, x', y', rfl, hT, rfl, f1, f2⟩ := y
    exact hs i x' y' T H (f1 xs qx) (f2 ys qy) p hT
  · have e : i = xs.length := by omega
    subst e
    exact .inl ⟨⟨xs, ys, qx, qy, Or.inl (Nat.le_refl _)⟩, hd H p⟩
theorem itt_walk {a : Addr} {xs : List V} {B : (Hp → Prop) → V → Hp → Prop} {H0 : Hp} {Qd : Hp → Prop} (Pv : Nat → Hp → Prop) (h0 : Pv 0 H0) (hl : ∀ i H, i ≤ xs.length → Pv i H → SqT K H a xs)
    (hs : ∀ i x H, xs[i]? = some x → Pv i H → B (Pv (i + 1)) x H) (hd : ∀ H, Pv xs.length H → Qd H) :
    ∃ W : Nat → Nat → Hp → Prop, (∃ m, W 0 m H0) ∧ ∀ i m H, W i m H →
      ((Itt K a).stop i H ∧ Qd H) ∨ ((Itt K a).go i H ∧ ∃ Nx : Hp → Prop, (∀ H', Nx H' → ∃ m', m' < m ∧ W (i + 1) m' H') ∧ ∀ x H', (Itt K a).yld i H x H' → B Nx x H') := by
  refine ⟨fun i m H => m = xs.length - i ∧ i ≤ xs.length ∧ Pv i H, ⟨xs.length, by simp, Nat.zero_le _, h0⟩, ?_⟩
  rintro i m H ⟨rfl, hi, p⟩
  have q := hl i H hi p
  by_cases hlt : i < xs.length
  · refine .inr ⟨⟨xs, xs[i], q, by simp [hlt]⟩, Pv (i + 1), fun H' p' => ⟨xs.length - (i + 1), by omega, rfl, hlt, p'⟩, fun x H' y => ?_⟩
    obtain ⟨e, y⟩ := y
    subst e
    exact hs i x _ (y xs q) p
  · have e : i = xs.length := by omega
    subst e
    exact .inl ⟨⟨xs, q, Nat.le_refl _⟩, hd H p⟩
theorem itr_walk {lo : Int} {n : Nat} {B : (Hp → Prop) → V → Hp → Prop} {H0 : Hp} {Qd : Hp → Prop} (Pv : Nat → Hp → Prop) (h0 : Pv 0 H0)
    (hs : ∀ i H, i < n → Pv i H → B (Pv (i + 1)) (.int (lo + i)) H) (hd : ∀ H, Pv n H → Qd H) :
    ∃ W : Nat → Nat → Hp → Prop, (∃ m, W 0 m H0) ∧ ∀ i m H, W i m H →
      ((Itr lo n).stop i H ∧ Qd H) ∨ ((Itr lo n).go i H ∧ ∃ Nx : Hp → Prop, (∀ H', Nx H' → ∃ m', m' < m ∧ W (i + 1) m' H') ∧ ∀ x H', (Itr lo n).yld i H x H' → B Nx x H') := by
  refine ⟨fun i m H => m = n - i ∧ i ≤ n ∧ Pv i H, ⟨n, by simp, Nat.zero_le _, h0⟩, ?_⟩
  rintro i m H ⟨rfl, hi, p⟩
  by_cases hlt : i < n
  · refine .inr ⟨hlt, Pv (i + 1), fun H' p' => ⟨n - (i + 1), by omega, rfl, hlt, p'⟩, fun x H' y => ?_⟩
    obtain ⟨e, y⟩ := y
    subst e y
    exact hs i _ hlt p
  · have e : i = n := by omega
    subst e
    exact .inl ⟨Nat.le_refl _, hd H p⟩
def spNumber (K : PySem.W.Frag) : Sp := fun vs H Q _ => ∃ (M : Addr → Prop) (x : V) (d : PyData) (lo hi : Int), vs = [x, .int lo, .int hi] ∧ Dn M K H x d ∧ Q (.bl (isNum d lo hi)) H
theorem ok_number {f : Addr} {fd : FuncData} (B : Blt mg) (F : Fun K "is_number" "is_number" sis_number f fd) : FnOk P w K mg base CX0 1 f fd ["value", "low", "high"] (spNumber K) := by
  have sc : FnScope ["value", "low", "high"] ["value", "low", "high"] (defScope sis_number) := ⟨rfl, rfl, rfl, by decide +kernel, rfl, by decide +kernel, by decide +kernel⟩
  refine F.ok sc (fun vs H Q E h => ?_) (fun cdv A outer s H vs Q E hr h => ?_)
  · obtain ⟨_, _, _, _, _, rfl, _⟩ := h
    rfl
  obtain ⟨M, x, d, lo, hi, rfl, hd, k⟩ := h
  refine ⟨_, (pss_cons (ps_if (PW.pt (pw_or (pt_not (pt_val (pe_callB call_isi (by rfl) B.isinstance (by decide +kernel) (pa_cons (pv 0) (pa_cons (pe_bltn (v := V.ty "int") (u := Value.type "int") (by rfl) B.int (by decide +kernel) rfl) pa_nil))))) (pw_or1 (pt_val (pe_callB call_isi (by rfl) B.isinstance (by decide +kernel) (pa_cons (pv 0) (pa_cons (pe_bltn (v := V.ty "bool") (u := Value.type "bool") (by rfl) B.bool (by decide +kernel) rfl) pa_nil)))))))
      (pss_one (ps_ret pe_bl))
      pss_nil)
    (pss_one (ps_ret (pe_chain op_le op_le (pv 1) (pv 0) (pv 2))))), ?_⟩
  refine ⟨_, rfl, x, _, _, _, isInt2 d, rfl, ClsV.ty _, hd.ty, kit_ty (kit_int d), _, rfl, ?_⟩
  have no : isNum d lo hi = false → Q (.bl false) H := fun e => by rw [e] at k; exact k
  cases hi2 : isInt2 d with
  | false =>
    refine iteT ?_
    refine iteT ?_
    exact no (by cases d <;> first | rfl | cases hi2)
  | true =>
    refine iteF ?_
    refine ⟨_, rfl, x, _, _, _, isBool d, rfl, ClsV.ty _, hd.ty, kit_ty (kit_bool d), _, rfl, ?_⟩
    cases hb : isBool d with
    | true =>
      refine iteT ?_
      exact no (by cases d <;> first | rfl | cases hb)
    | false =>
      refine iteF ?_
      cases d with
      | int i =>
        cases hd
        refine ⟨_, rfl, _, rfl, _, _, rfl, rfl, _, rfl, ?_⟩
        have e : isNum (.int i) lo hi = (decide (lo ≤ i) && decide (i ≤ hi)) := rfl
        rw [e] at k
        cases h1 : decide (lo ≤ i) with
        | true =>
          rw [h1] at k
          refine iteT ?_
          exact ⟨_, rfl, _, _, rfl, rfl, k⟩
        | false =>
          rw [h1] at k
          exact iteF k
      | _ => first | (simp [isInt2] at hi2; done) | (simp [isBool] at hb; done)
def spRow (K : PySem.W.Frag) : Sp := fun vs H Q _ => ∃ (M : Addr → Prop) (x : V) (d : PyData) (la : Addr) (ls : List Int), vs = [x, .ref la] ∧ Dn M K H x d ∧ SqT K H la (ls.map V.int) ∧ ls.length ≤ 1000 ∧ ∀ H', Same H H' → Q (.bl (isRow ls d)) H'
theorem ok_row {f : Addr} {fd : FuncData} (B : Blt mg) (gis_number : Has P w K mg base CX0 1 "is_number" ["value", "low", "high"] (spNumber K)) (F : Fun K "is_row" "is_row" sis_row f fd) : FnOk P w K mg base CX0 2 f fd ["row", "labels"] (spRow K) := by
  have sc : FnScope ["row", "labels", "label", "many"] ["row", "labels"] (defScope sis_row) := ⟨rfl, rfl, rfl, by decide +kernel, rfl, by decide +kernel, by decide +kernel⟩
  refine F.ok sc (fun vs H Q E h => ?_) (fun cdv A outer s H vs Q E hr h => ?_)
  · obtain ⟨_, _, _, _, _, rfl, _⟩ := h
    rfl
  obtain ⟨M, x, d, la, ls, rfl, hd, hla, hz, k⟩ := h
  refine ⟨_, (pss_cons (ps_if (PW.pt (pw_or (pt_not (pt_val (pe_callB call_isi (by rfl) B.isinstance (by decide +kernel) (pa_cons (pv 0) (pa_cons (pe_bltn (v := V.ty "tuple") (u := Value.type "tuple") (by rfl) B.tuple (by decide +kernel) rfl) pa_nil))))) (pw_or1 (pt_cmpR op_nei (pe_callB call_len_seq (by rfl) B.len (by decide +kernel) (pa_cons (pv 0) pa_nil)) (pe_callB call_len_seq (by rfl) B.len (by decide +kernel) (pa_cons (pv 1) pa_nil)) (nomark _)))))
      (pss_one (ps_ret pe_bl))
      pss_nil)
    (pss_one (ps_ret (pe_callB (cr_all rfl) (by rfl) B.all (by decide +kernel) (pa_cons (pe_lc (own := [("label", 2), ("many", 3)]) (g := gTup K 2 (gCons (gName 2) (gCons (gName 3) gNil))) (tt := tYes) rfl sc.nd (RZ.pi_zipA (by rfl) B.zip (pa_cons (pv 0) (pa_cons (pv 1) pa_nil))) (blkOk_by (N := ["row", "labels", "label", "many"]) (sc := defScope sis_row) (by decide +kernel)) (fun _ _ _ _ _ => (pg_tup rfl (pgs_cons (pg_name (i := 2) sc.nd rfl (Or.inl rfl)) (pgs_cons (pg_name (i := 3) sc.nd rfl (Or.inl rfl)) pgs_nil)))) (fun _ _ _ _ _ => pts_nil) (fun _ _ _ _ _ => (pc gis_number hr (pa_cons (pv 2) (pa_cons pe_int (pa_cons (pe_op op_sub (pv 3) pe_int) pa_nil)))))) pa_nil))))), ?_⟩
  have no : isRow ls d = false → Q (.bl false) H := fun e => by have := k H (Same.refl _); rw [e] at this; exact this
  refine ⟨_, rfl, x, _, _, _, isTup d, rfl, ClsV.ty _, hd.ty, kit_ty (kit_tup d), _, rfl, ?_⟩
  cases ht : isTup d with
  | false =>
    refine iteT ?_
    refine iteT ?_
    exact no (by cases d <;> first | rfl | cases ht)
  | true =>
    refine iteF ?_
    obtain ⟨ds, rfl⟩ := isTup_of ht
    obtain ⟨a, xs, rfl, ha, hx⟩ := dn_tup hd
    have e : isRow ls (.tuple ds) = (decide (ds.length = ls.length) && (ds.zip ls).all fun p => isNum p.1 0 (p.2 - 1)) := rfl
    refine ⟨_, rfl, a, _, rfl, .inr ha, _, rfl, la, _, rfl, .inr hla, _, _, rfl, rfl, _, rfl, ?_⟩
    by_cases hl : ds.length = ls.length
    · have e2 : ((xs.length : Nat) : Int) = (((ls.map V.int).length : Nat) : Int) := by rw [hx.len, List.length_map, hl]
      rw [decide_eq_true e2]
      refine iteF ?_
      have e3 : xs.length = (ls.map V.int).length := by rw [hx.len, List.length_map, hl]
      refine ⟨_, rfl, _, rfl, a, la, xs, _, rfl, .inr ⟨ha, hla, fun p hp => ?_⟩⟩
      refine itz_walk (K := K) e3 (fun i H' => Same H H' ∧ H' p = some (.lst ((((ds.zip ls).take i).map fun p => isNum p.1 0 (p.2 - 1)).map V.bl))) ⟨same_new hp _, upd_same⟩ (fun i H' z => ⟨z.1.seqT ha, z.1.seqT hla⟩) ?_ ?_
      · rintro i y z T H' hy hz2 ⟨sm, hH⟩ hT
        obtain ⟨dy, hdy, hyd⟩ := hx.of hy
        obtain ⟨m, hm, rfl⟩ := item_of hz2
        have st := same_new hT (.tup [y, .int m])
        refine ⟨T, _, rfl, SqT.of upd_same, rfl, _, _, rfl, _, _, rfl, rfl, rfl, ?_⟩
        refine ⟨_, rfl, _, rfl, _, _, rfl, rfl, M, y, dy, 0, m - 1, rfl, hyd.stay (Same.go (sm.trans st)), ?_⟩
        refine ⟨_, st _ _ hH, ?_, ?_, ?_⟩
        · rw [List.length_map, List.length_map, List.length_take, List.length_zip]
          exact Nat.lt_of_le_of_lt (show _ ≤ 1000 by omega) (by decide)
        · exact same_own (sm.trans st) hp _
        · have hzip : (ds.zip ls)[i]? = some (dy, m) := by rw [List.getElem?_zip_eq_some]; exact ⟨hdy, hm⟩
          rw [upd_same, take_more hzip, List.map_append, List.map_append]
          rfl
      · rintro H' ⟨sm, hH⟩
        rw [List.take_of_length_le (by rw [List.length_zip, hx.len]; omega)] at hH
        refine ⟨p, _, rfl, SqL.of hH, ?_⟩
        have q := k H' sm
        rw [e, decide_eq_true hl, Bool.true_and] at q
        rw [List.all_map]
        exact q
    · have e2 : ¬ ((xs.length : Nat) : Int) = (((ls.map V.int).length : Nat) : Int) := by rw [hx.len, List.length_map]; omega
      rw [decide_eq_false e2]
      refine iteT ?_
      refine no ?_
      rw [e, decide_eq_false hl]
      rfl
end
section
variable {P : Program} {w : World} {K : PySem.W.Frag} {mg : Str → Option Value} {base : Heap}
theorem bulk_all : ∀ {ds : List PyData}, ds.length ≤ PyData.bulkAll ds ∧ ∀ e ∈ ds, e.bulk ≤ PyData.bulkAll ds
  | [] => ⟨Nat.zero_le _, fun e h => absurd h List.not_mem_nil⟩
  | d :: ds => by
    obtain ⟨h1, h2⟩ := bulk_all (ds := ds)
    simp only [PyData.bulkAll, List.length_cons]
    refine ⟨by omega, fun e h => ?_⟩
    rcases List.mem_cons.mp h with rfl | h
    · omega
    · have := h2 e h
      omega
theorem bulk_len {ds : List PyData} {n : Nat} (h : (PyData.tuple ds).bulk ≤ n) : ds.length ≤ n := by
  simp only [PyData.bulk] at h
  exact Nat.le_trans bulk_all.1 h
theorem bulk_mem {ds : List PyData} {n : Nat} (h : (PyData.tuple ds).bulk ≤ n) {e : PyData} (m : e ∈ ds) : e.bulk ≤ n := by
  simp only [PyData.bulk] at h
  exact Nat.le_trans (bulk_all.2 e m) h
def spRows (K : PySem.W.Frag) : Sp := fun vs H Q _ => ∃ (M : Addr → Prop) (x : V) (d : PyData) (la : Addr) (ls : List Int), vs = [x, .ref la] ∧ Dn M K H x d ∧ d.bulk ≤ 1000000 ∧ SqT K H la (ls.map V.int) ∧ ls.length ≤ 1000 ∧ ∀ H', Same H H' → Q (.bl (areRows ls d)) H'
/-- what is asked of one place -/
def rowAt (ls : List Int) (rs : List PyData) (i : Nat) : Bool := isRow ls (rs.getD i .none) && (decide (i = 0) || decide (intsD (rs.getD (i - 1) .none) < intsD (rs.getD i .none)))
theorem rows_all (ls : List Int) (rs : List PyData) : areRows ls (.tuple rs) = (List.range rs.length).all (rowAt ls rs) := rfl
theorem rows_bad {ls : List Int} {rs : List PyData} {i : Nat} (hi : i < rs.length) (h : rowAt ls rs i = false) : areRows ls (.tuple rs) = false := by
  rw [rows_all, List.all_eq_false]
  exact ⟨i, List.mem_range.mpr hi, by rw [h]; decide⟩
theorem getD_of {rs : List PyData} {i : Nat} {d : PyData} (h : rs[i]? = some d) : rs.getD i .none = d := by
  simp [List.getD, h]
theorem row_val {M : Addr → Prop} {H : Hp} {v : V} {d : PyData} {ls : List Int} (h : Dn M K H v d) (r : isRow ls d = true) : ∃ a, v = .ref a ∧ SqT K H a ((intsD d).map V.int) := by
  obtain ⟨e, _⟩ := row_ints r
  rw [e] at h
  obtain ⟨a, xs, rfl, h1, h2⟩ := dn_tup h
  exact ⟨a, rfl, by rw [← ints_vs h2]; exact h1⟩
theorem ok_rows {f : Addr} {fd : FuncData} (B : Blt mg) (gis_row : Has P w K mg base CX0 2 "is_row" ["row", "labels"] (spRow K)) (F : Fun K "_are_rows" "_are_rows" s_are_rows f fd) : FnOk P w K mg base CX0 3 f fd ["rows", "labels"] (spRows K) := by
  have sc : FnScope ["rows", "labels", "at"] ["rows", "labels"] (defScope s_are_rows) := ⟨rfl, rfl, rfl, by decide +kernel, rfl, by decide +kernel, by decide +kernel⟩
  refine F.ok sc (fun vs H Q E h => ?_) (fun cdv A outer s H vs Q E hr h => ?_)
  · obtain ⟨_, _, _, _, _, rfl, _⟩ := h
    rfl
  obtain ⟨M, x, d, la, ls, rfl, hd, hb0, hla, hz, k⟩ := h
  refine ⟨_, (pss_cons (ps_if (pt_not (pt_val (pe_callB call_isi (by rfl) B.isinstance (by decide +kernel) (pa_cons (pv 0) (pa_cons (pe_bltn (v := V.ty "tuple") (u := Value.type "tuple") (by rfl) B.tuple (by decide +kernel) rfl) pa_nil)))))
      (pss_one (ps_ret pe_bl))
      pss_nil)
    (pss_cons (ps_for PassesOwn.never rfl (pi_range1 (by rfl) B.range (pa_cons (pe_callB call_len_seq (by rfl) B.len (by decide +kernel) (pa_cons (pv 0) pa_nil)) pa_nil)) (pg_name (i := 2) sc.nd rfl (Or.inl rfl))
      (pss_cons (ps_if (pt_not (pt_val (pc gis_row hr (pa_cons (pe_ix ix_tup (pv 0) (pv 2) (fun _ _ => rfl)) (pa_cons (pv 1) pa_nil)))))
        (pss_one (ps_ret pe_bl))
        pss_nil)
      (pss_one (ps_if (PW.pt (pw_and (pt_cmpR op_gt (pv 2) pe_int (nomark _)) (pw_and1 (pt_cmpR (op_geR hr.units) (pe_ix ix_tup (pv 0) (pe_op op_sub (pv 2) pe_int) (fun _ _ => rfl)) (pe_ix ix_tup (pv 0) (pv 2) (fun _ _ => rfl)) (nomark _)))))
        (pss_one (ps_ret pe_bl))
        pss_nil))))
    (pss_one (ps_ret pe_bl)))), ?_⟩
  refine ⟨_, rfl, x, _, _, _, isTup d, rfl, ClsV.ty _, hd.ty, kit_ty (kit_tup d), _, rfl, ?_⟩
  cases ht : isTup d with
  | false =>
    refine iteT ?_
    have e : areRows ls d = false := by cases d <;> first | rfl | cases ht
    rw [e] at k
    exact k H (Same.refl _)
  | true =>
    refine iteF ?_
    obtain ⟨ds, rfl⟩ := isTup_of ht
    obtain ⟨a, xs, rfl, ha, hx⟩ := dn_tup hd
    have no : ∀ {i : Nat}, i < ds.length → rowAt ls ds i = false → ∀ H', Same H H' → Q (.bl false) H' := fun hi hb H' sm => by
      have q := k H' sm
      rw [rows_bad hi hb] at q
      exact q
    refine ⟨_, rfl, a, _, rfl, .inr ha, ((xs.length : Nat) : Int), rfl, by omega, ?_, for_range (lo := 0) (n := ((xs.length : Nat) : Int).toNat) (fun i σ H' => Same H H' ∧ ∃ av : Option V, σ = [some (.ref a), some (.ref la), av] ∧ ∀ j, j < i → rowAt ls ds j = true)
      ⟨Same.refl _, none, rfl, fun j hj => absurd hj (Nat.not_lt_zero j)⟩ ?_ ?_⟩
    · have l1 := bulk_len hb0
      have l2 := hx.len
      omega
    · rintro i σ H' hi ⟨sm, av, rfl, hok⟩
      have il : i < ds.length := by rw [← hx.len]; omega
      obtain ⟨y, hy, hyd⟩ := (hx.stay (Same.go sm)).at (show ds[i]? = some ds[i] by simp [il])
      have gd : ds.getD i .none = ds[i] := getD_of (by simp [il])
      refine ⟨_, rfl, _, rfl, a, _, _, y, rfl, rfl, sm.seqT ha, at_of (j := i) (by omega) hy, _, rfl, M, y, ds[i], la, ls, rfl, hyd, sm.seqT hla, hz, fun H2 s2 => ⟨_, rfl, ?_⟩⟩
      have sm2 := sm.trans s2
      cases hir : isRow ls ds[i] with
      | false =>
        refine iteT ?_
        exact no il (by unfold rowAt; rw [gd, hir]; rfl) H2 sm2
      | true =>
        refine iteF ?_
        refine ⟨_, rfl, _, _, rfl, rfl, _, rfl, ?_⟩
        refine ite2 (fun c => ?_) (fun c => ?_)
        · have i0 := dec_t c
          have il2 : i - 1 < ds.length := by omega
          have prev := hok (i - 1) (by omega)
          have pr : isRow ls ds[i - 1] = true := by
            unfold rowAt at prev
            rw [Bool.and_eq_true, getD_of (show ds[i - 1]? = some ds[i - 1] by simp [il2])] at prev
            exact prev.1
          obtain ⟨y1, hy1, hyd1⟩ := (hx.stay (Same.go sm2)).at (show ds[i - 1]? = some ds[i - 1] by simp [il2])
          obtain ⟨b1, rfl, hb1⟩ := row_val hyd1 pr
          obtain ⟨b2, rfl, hb2⟩ := row_val (hyd.stay (Same.go s2)) hir
          refine ⟨_, rfl, _, rfl, _, _, rfl, rfl, a, _, _, _, rfl, rfl, sm2.seqT ha, at_of (j := i - 1) (by omega) hy1, _, rfl, _, rfl, a, _, _, _, rfl, rfl, sm2.seqT ha, at_of (j := i) (by omega) hy, b1, b2, _, _, rfl, rfl, hb1, hb2, _, rfl, ?_⟩
          have re : rowAt ls ds i = decide (intsD ds[i - 1] < intsD ds[i]) := by
            unfold rowAt
            rw [gd, hir, getD_of (show ds[i - 1]? = some ds[i - 1] by simp [il2]), decide_eq_false (show ¬ i = 0 by omega)]
            rfl
          cases hlt : decide (intsD ds[i - 1] < intsD ds[i]) with
          | true =>
            refine iteF ?_
            refine ⟨sm2, _, rfl, fun j hj => ?_⟩
            by_cases ej : j = i
            · rw [ej, re, hlt]
            · exact hok j (by omega)
          | false =>
            refine iteT ?_
            exact no il (by rw [re, hlt]) H2 sm2
        · have i0 := dec_f c
          obtain rfl : i = 0 := by omega
          refine ⟨sm2, _, rfl, fun j hj => ?_⟩
          obtain rfl : j = 0 := by omega
          unfold rowAt
          rw [gd, hir]
          rfl
    · rintro σ H' ⟨sm, av, rfl, hok⟩
      have q := k H' sm
      have e : areRows ls (.tuple ds) = true := by
        rw [rows_all, List.all_eq_true]
        exact fun j hj => hok j (by have := List.mem_range.mp hj; have := hx.len; omega)
      rw [e] at q
      exact q
theorem num_len {n : Nat} {lo hi : Int} : isNum (.int (n : Nat)) lo hi = (decide (lo ≤ (n : Int)) && decide ((n : Int) ≤ hi)) := rfl
def spInputs (K : PySem.W.Frag) : Sp := fun vs H Q _ => ∃ (M : Addr → Prop) (x : V) (d : PyData) (la : Addr) (ls : List Int), vs = [x, .ref la] ∧ Dn M K H x d ∧ d.bulk ≤ 1000000 ∧ SqT K H la (ls.map V.int) ∧ ls.length ≤ 1000 ∧ ∀ H', Same H H' → Q (.bl (areInputs ls d)) H'
theorem ok_inputs {f : Addr} {fd : FuncData} (B : Blt mg) (C : Cst mg) (gis_number : Has P w K mg base CX0 1 "is_number" ["value", "low", "high"] (spNumber K)) (g_are_rows : Has P w K mg base CX0 3 "_are_rows" ["rows", "labels"] (spRows K))
    (F : Fun K "_are_inputs" "_are_inputs" s_are_inputs f fd) : FnOk P w K mg base CX0 4 f fd ["allowed", "labels"] (spInputs K) := by
  have sc : FnScope ["allowed", "labels", "rows"] ["allowed", "labels"] (defScope s_are_inputs) := ⟨rfl, rfl, rfl, by decide +kernel, rfl, by decide +kernel, by decide +kernel⟩
  obtain ⟨t1, hMOST_INPUTS⟩ := C.MOST_INPUTS
  refine F.ok sc (fun vs H Q E h => ?_) (fun cdv A outer s H vs Q E hr h => ?_)
  · obtain ⟨_, _, _, _, _, rfl, _⟩ := h
    rfl
  obtain ⟨M, x, d, la, ls, rfl, hd, hb0, hla, hz, k⟩ := h
  refine ⟨_, (pss_cons (ps_if (PW.pt (pw_or (pt_not (pt_val (pe_callB call_isi (by rfl) B.isinstance (by decide +kernel) (pa_cons (pv 0) (pa_cons (pe_bltn (v := V.ty "tuple") (u := Value.type "tuple") (by rfl) B.tuple (by decide +kernel) rfl) pa_nil))))) (pw_or1 (pt_not (pt_val (pc gis_number hr (pa_cons (pe_callB call_len_seq (by rfl) B.len (by decide +kernel) (pa_cons (pv 0) pa_nil)) (pa_cons pe_int (pa_cons (pe_glob (v := V.int _) rfl hMOST_INPUTS ⟨_, rfl⟩) pa_nil)))))))))
      (pss_one (ps_ret pe_bl))
      pss_nil)
    (pss_one (ps_ret (pe_callB (cr_all rfl) (by rfl) B.all (by decide +kernel) (pa_cons (pe_lc (own := [("rows", 2)]) (g := gName 2) (tt := tYes) rfl sc.nd (pi_tup (pv 0)) (blkOk_by (N := ["allowed", "labels", "rows"]) (sc := defScope s_are_inputs) (by decide +kernel)) (fun _ _ _ _ _ => pg_name (i := 2) sc.nd rfl (Or.inl rfl)) (fun _ _ _ _ _ => pts_nil) (fun _ _ _ _ _ => (pc g_are_rows hr (pa_cons (pv 2) (pa_cons (pv 1) pa_nil))))) pa_nil))))), ?_⟩
  refine ⟨_, rfl, x, _, _, _, isTup d, rfl, ClsV.ty _, hd.ty, kit_ty (kit_tup d), _, rfl, ?_⟩
  cases ht : isTup d with
  | false =>
    refine iteT ?_
    refine iteT ?_
    have e : areInputs ls d = false := by cases d <;> first | rfl | cases ht
    rw [e] at k
    exact k H (Same.refl _)
  | true =>
    refine iteF ?_
    obtain ⟨ds, rfl⟩ := isTup_of ht
    obtain ⟨a, xs, rfl, ha, hx⟩ := dn_tup hd
    have e : areInputs ls (.tuple ds) = (isNum (.int (ds.length : Nat)) 1 4 && ds.all (areRows ls)) := rfl
    refine ⟨_, rfl, a, _, rfl, .inr ha, M, _, .int ((xs.length : Nat) : Int), 1, 4, rfl, .int _, _, rfl, ?_⟩
    rw [hx.len]
    rw [e] at k
    cases hn : isNum (.int (ds.length : Nat)) 1 4 with
    | false =>
      refine iteT ?_
      rw [hn] at k
      exact k H (Same.refl _)
    | true =>
      refine iteF ?_
      rw [hn, Bool.true_and] at k
      refine ⟨_, rfl, a, rfl, ⟨_, ha⟩, fun p hp => ?_⟩
      refine itt_walk (K := K) (a := a) (xs := xs) (fun i H' => Same H H' ∧ H' p = some (.lst (((ds.take i).map (areRows ls)).map V.bl))) ⟨same_new hp _, upd_same⟩ (fun i H' _ z => z.1.seqT ha) ?_ ?_
      · rintro i y H' hy ⟨sm, hH⟩
        obtain ⟨dy, hdy, hyd⟩ := hx.of hy
        have few := bulk_mem hb0 (List.mem_of_getElem? hdy)
        have il := bulk_len hb0
        refine ⟨rfl, ?_⟩
        refine ⟨_, rfl, _, rfl, M, y, dy, la, ls, rfl, hyd.stay (Same.go sm), few, sm.seqT hla, hz, fun H2 s2 => ?_⟩
        refine ⟨_, s2 _ _ hH, ?_, same_own (sm.trans s2) hp _, ?_⟩
        · rw [List.length_map, List.length_map, List.length_take]
          exact Nat.lt_of_le_of_lt (show _ ≤ 1000000 by omega) (by decide)
        · rw [upd_same, take_more hdy, List.map_append, List.map_append]
          rfl
      · rintro H' ⟨sm, hH⟩
        rw [List.take_of_length_le (by rw [hx.len]; exact Nat.le_refl _)] at hH
        refine ⟨p, _, rfl, SqL.of hH, ?_⟩
        rw [List.all_map]
        exact k H' sm
theorem pow60 : ∀ n, n < 5 → (60 : Int) ^ n ≤ 60 ^ 4 := by decide
theorem labels_tup {D : Int} {ms : List PyData} (h : isNum (.int D) 2 4 = true) : areLabels (.int D) (.tuple ms) = (decide (((ms.length : Nat) : Int) = D) && (ms.all (isNum · 1 60) && decide (prodD ms ≤ 4000))) := by
  unfold areLabels
  rw [h, Bool.true_and]
  rfl
theorem labels_no {d dL : PyData} (h : isTup dL = false) : areLabels d dL = false := by
  unfold areLabels
  cases dL <;> first | exact Bool.and_false _ | cases h
def spProduct (K : PySem.W.Frag) : Sp := fun vs H Q _ => ∃ (a : Addr) (ms : List PyData), vs = [.ref a] ∧ SqT K H a ((ms.map numD).map V.int) ∧ ms.all (isNum · 1 60) = true ∧ ms.length ≤ 4 ∧ Q (.int (prodD ms)) H
theorem ok_product {f : Addr} {fd : FuncData} (F : Fun K "product_of" "product_of" sproduct_of f fd) : FnOk P w K mg base CX0 1 f fd ["numbers"] (spProduct K) := by
  have sc : FnScope ["numbers", "product", "number"] ["numbers"] (defScope sproduct_of) := ⟨rfl, rfl, rfl, by decide +kernel, rfl, by decide +kernel, by decide +kernel⟩
  refine F.ok sc (fun vs H Q E h => ?_) (fun cdv A outer s H vs Q E hr h => ?_)
  · obtain ⟨_, _, rfl, _⟩ := h
    rfl
  obtain ⟨a, ms, rfl, ha, hall, h4, k⟩ := h
  refine ⟨_, (pss_cons (ps_set (i := 1) sc.nd rfl (Or.inl rfl) pe_int)
    (pss_cons (ps_for PassesOwn.never rfl (pi_tup (pv 0)) (pg_name (i := 2) sc.nd rfl (Or.inl rfl))
      (pss_one (ps_set (i := 1) sc.nd rfl (Or.inl rfl) (pe_op op_mul (pv 1) (pv 2)))))
    (pss_one (ps_ret (pv 1))))), ?_⟩
  refine ⟨_, rfl, a, rfl, ⟨_, ha⟩, for_tup (K := K) (a := a) (xs := (ms.map numD).map V.int) (fun i σ H' => H' = H ∧ ∃ mv : Option V, σ = [some (.ref a), some (.int (prodD (ms.take i))), mv])
    ⟨rfl, none, rfl⟩ (fun i σ H' _ z => by rw [z.1]; exact ha) ?_ ?_⟩
  · rintro i v σ H' hv ⟨rfl, mv, rfl⟩
    obtain ⟨n, hn, rfl⟩ := item_of hv
    obtain ⟨dm, hdm, rfl⟩ : ∃ dm, ms[i]? = some dm ∧ numD dm = n := by
      rw [List.getElem?_map] at hn
      cases e : ms[i]? with
      | none => rw [e] at hn; cases hn
      | some z => rw [e] at hn; exact ⟨z, rfl, Option.some.inj hn⟩
    have hdm60 := List.all_eq_true.mp hall dm (List.mem_of_getElem? hdm)
    obtain ⟨em, m1, m60⟩ := num_of hdm60
    have hall2 : (ms.take i).all (isNum · 1 60) = true := List.all_eq_true.mpr fun x hx => List.all_eq_true.mp hall x (List.mem_of_mem_take hx)
    obtain ⟨p1, p2⟩ := prod_le _ hall2
    have p3 : prodD (ms.take i) ≤ 60 ^ 4 := Int.le_trans p2 (by
      have h4 : (ms.take i).length ≤ 4 := by rw [List.length_take]; omega
      exact pow60 _ (by omega))
    refine ⟨_, rfl, _, rfl, _, _, rfl, rfl, .inr (by omega), ?_⟩
    refine ⟨rfl, some (.int (numD dm)), ?_⟩
    rw [take_more hdm, prod_more]
    rfl
  · rintro σ H' ⟨rfl, mv, rfl⟩
    rw [List.take_of_length_le (by rw [List.length_map, List.length_map]; exact Nat.le_refl _)]
    exact ⟨_, rfl, k⟩
def spLabels (K : PySem.W.Frag) : Sp := fun vs H Q _ => ∃ (M : Addr → Prop) (x y : V) (dD dL : PyData), vs = [x, y] ∧ Dn M K H x dD ∧ Dn M K H y dL ∧ ∀ H', Same H H' → Q (.bl (areLabels dD dL)) H'
theorem ok_labels {f : Addr} {fd : FuncData} (B : Blt mg) (C : Cst mg) (gis_number : Has P w K mg base CX0 1 "is_number" ["value", "low", "high"] (spNumber K)) (gproduct_of : Has P w K mg base CX0 1 "product_of" ["numbers"] (spProduct K))
    (F : Fun K "are_labels" "are_labels" sare_labels f fd) : FnOk P w K mg base CX0 2 f fd ["D", "labels"] (spLabels K) := by
  have sc : FnScope ["D", "labels", "many"] ["D", "labels"] (defScope sare_labels) := ⟨rfl, rfl, rfl, by decide +kernel, rfl, by decide +kernel, by decide +kernel⟩
  obtain ⟨t1, hLEAST_COLOURS⟩ := C.LEAST_COLOURS
  obtain ⟨t2, hMOST_COLOURS⟩ := C.MOST_COLOURS
  obtain ⟨t3, hMOST_LABELS⟩ := C.MOST_LABELS
  obtain ⟨t4, hMOST_ROWS⟩ := C.MOST_ROWS
  refine F.ok sc (fun vs H Q E h => ?_) (fun cdv A outer s H vs Q E hr h => ?_)
  · obtain ⟨_, _, _, _, _, rfl, _⟩ := h
    rfl
  obtain ⟨M, x, y, dD, dL, rfl, hD, hL, k⟩ := h
  refine ⟨_, (pss_cons (ps_if (pt_not (pt_val (pc gis_number hr (pa_cons (pv 0) (pa_cons (pe_glob (v := V.int _) rfl hLEAST_COLOURS ⟨_, rfl⟩) (pa_cons (pe_glob (v := V.int _) rfl hMOST_COLOURS ⟨_, rfl⟩) pa_nil))))))
      (pss_one (ps_ret pe_bl))
      pss_nil)
    (pss_cons (ps_if (PW.pt (pw_or (pt_not (pt_val (pe_callB call_isi (by rfl) B.isinstance (by decide +kernel) (pa_cons (pv 1) (pa_cons (pe_bltn (v := V.ty "tuple") (u := Value.type "tuple") (by rfl) B.tuple (by decide +kernel) rfl) pa_nil))))) (pw_or1 (pt_cmpR op_nei (pe_callB call_len_seq (by rfl) B.len (by decide +kernel) (pa_cons (pv 1) pa_nil)) (pv 0) (nomark _)))))
      (pss_one (ps_ret pe_bl))
      pss_nil)
    (pss_cons (ps_if (pt_not (pt_val (pe_callB (cr_all rfl) (by rfl) B.all (by decide +kernel) (pa_cons (pe_lc (own := [("many", 2)]) (g := gName 2) (tt := tYes) rfl sc.nd (pi_tup (pv 1)) (blkOk_by (N := ["D", "labels", "many"]) (sc := defScope sare_labels) (by decide +kernel)) (fun _ _ _ _ _ => pg_name (i := 2) sc.nd rfl (Or.inl rfl)) (fun _ _ _ _ _ => pts_nil) (fun _ _ _ _ _ => (pc gis_number hr (pa_cons (pv 2) (pa_cons pe_int (pa_cons (pe_glob (v := V.int _) rfl hMOST_LABELS ⟨_, rfl⟩) pa_nil)))))) pa_nil))))
      (pss_one (ps_ret pe_bl))
      pss_nil)
    (pss_one (ps_ret (pe_cmpR op_le (pc gproduct_of hr (pa_cons (pv 1) pa_nil)) (pe_glob (v := V.int _) rfl hMOST_ROWS ⟨_, rfl⟩) (nomark _))))))), ?_⟩
  refine ⟨_, rfl, M, x, dD, 2, 4, rfl, hD, _, rfl, ?_⟩
  have no : areLabels dD dL = false → ∀ H', Same H H' → Q (.bl false) H' := fun e H' sm => by have := k H' sm; rw [e] at this; exact this
  cases hn : isNum dD 2 4 with
  | false =>
    refine iteT ?_
    refine no ?_ H (Same.refl _)
    unfold areLabels
    rw [hn]
    rfl
  | true =>
    refine iteF ?_
    obtain ⟨eD, l2, l4⟩ := num_of hn
    generalize numD dD = D at eD l2 l4
    subst eD
    obtain rfl := dn_int hD
    refine ⟨_, rfl, y, _, _, _, isTup dL, rfl, ClsV.ty _, hL.ty, kit_ty (kit_tup dL), _, rfl, ?_⟩
    cases ht : isTup dL with
    | false =>
      refine iteT ?_
      refine iteT ?_
      exact no (labels_no ht) H (Same.refl _)
    | true =>
      refine iteF ?_
      obtain ⟨ms, rfl⟩ := isTup_of ht
      have e1 : areLabels (.int D) (.tuple ms) = (decide (((ms.length : Nat) : Int) = D) && (ms.all (isNum · 1 60) && decide (prodD ms ≤ 4000))) := labels_tup hn
      rw [e1] at k no
      obtain ⟨a, xs, rfl, ha, hx⟩ := dn_tup hL
      refine ⟨_, rfl, a, _, rfl, .inr ha, _, rfl, _, _, rfl, rfl, _, rfl, ?_⟩
      rw [hx.len]
      cases hl : decide (((ms.length : Nat) : Int) = D) with
      | false =>
        refine iteT ?_
        exact no (by rw [hl]; rfl) H (Same.refl _)
      | true =>
        refine iteF ?_
        have hl' := dec_t hl
        rw [hl, Bool.true_and] at k no
        refine ⟨_, rfl, a, rfl, ⟨_, ha⟩, fun p hp => ?_⟩
        refine itt_walk (K := K) (a := a) (xs := xs) (fun i H' => Same H H' ∧ H' p = some (.lst (((ms.take i).map (isNum · 1 60)).map V.bl))) ⟨same_new hp _, upd_same⟩ (fun i H' _ z => z.1.seqT ha) ?_ ?_
        · rintro i v H' hv ⟨sm, hH⟩
          obtain ⟨dm, hdm, hvd⟩ := hx.of hv
          refine ⟨rfl, ?_⟩
          refine ⟨_, rfl, M, v, dm, 1, 60, rfl, hvd.stay (Same.go sm), ?_⟩
          refine ⟨_, hH, ?_, same_own sm hp _, ?_⟩
          · rw [List.length_map, List.length_map, List.length_take]
            exact Nat.lt_of_le_of_lt (show _ ≤ 1000 by omega) (by decide)
          · rw [upd_same, take_more hdm, List.map_append, List.map_append]
            rfl
        · rintro H' ⟨sm, hH⟩
          rw [List.take_of_length_le (by rw [hx.len]; exact Nat.le_refl _)] at hH
          refine ⟨p, _, rfl, SqL.of hH, ?_⟩
          rw [List.all_map]
          have e2 : ms.all (id ∘ (isNum · 1 60)) = ms.all (isNum · 1 60) := rfl
          refine ⟨_, rfl, ?_⟩
          rw [e2]
          cases hall : ms.all (isNum · 1 60) with
          | false =>
            refine iteT ?_
            exact no (by rw [hall]; rfl) H' sm
          | true =>
            refine iteF ?_
            rw [hall, Bool.true_and] at k
            have hms := labels_ints hall
            have ha2 : SqT K H' a ((ms.map numD).map V.int) := by
              have q := hx
              rw [hms] at q
              rw [← ints_vs q]
              exact sm.seqT ha
            exact ⟨_, rfl, a, ms, rfl, ha2, hall, by omega, _, _, rfl, rfl, k H' sm⟩
end
section
variable {P : Program} {w : World} {K : PySem.W.Frag} {mg : Str → Option Value} {base : Heap}
/-- the first part may be held against a text -/
def WordOk (d : PyData) : Prop := ∀ w r, d = .tuple (w :: r) → r.length = 4 → SeqAt.shaped w = true
def spTaskB (K : PySem.W.Frag) : Sp := fun vs H Q _ => ∃ (M : Addr → Prop) (x : V) (d : PyData), vs = [x] ∧ Dn M K H x d ∧ d.bulk ≤ 1000000 ∧ WordOk d ∧ ∀ H', Same H H' → Q (.bl (isTask d)) H'
theorem shaped_dp {M : Addr → Prop} {H : Hp} {v : V} {d : PyData} (h : Dn M K H v d) (s : SeqAt.shaped d = true) : Dp K H v d := Dn.dp d (PyData.hasDict_of_canLay d (SeqAt.canLay_of_shaped s)) h
theorem word_eqv (d : PyData) (x : Str) : PyData.eqv d (.str x) = match d with
    | .str y => decide (y = x)
    | _ => false := by
  cases d with
  | str y =>
    simp only [PyData.eqv]
    by_cases h : y = x
    · rw [decide_eq_true h, h]
      exact beq_self_eq_true x
    · rw [decide_eq_false h]
      exact beq_eq_false_iff_ne.mpr h
  | _ => simp [PyData.eqv]
theorem is_word (d : PyData) : PyData.eqv d (.str "task") = isWord d := by
  rw [word_eqv]
  rfl
theorem labels_of {dD dL : PyData} (h : areLabels dD dL = true) : ∃ D, dD = .int D ∧ 2 ≤ D ∧ D ≤ 4 ∧ dL = tupI (intsD dL) ∧ (((intsD dL).length : Nat) : Int) = D := by
  unfold areLabels at h
  rw [Bool.and_eq_true] at h
  obtain ⟨h1, h2⟩ := h
  obtain ⟨e, l, u⟩ := num_of h1
  cases dL with
  | tuple ms =>
    have h2' : (decide (((ms.length : Nat) : Int) = numD dD) && (ms.all (isNum · 1 60) && decide (prodD ms ≤ 4000))) = true := h2
    rw [Bool.and_eq_true, Bool.and_eq_true, decide_eq_true_eq] at h2'
    refine ⟨numD dD, e, l, u, ?_, ?_⟩
    · show PyData.tuple ms = .tuple ((ms.map numD).map PyData.int)
      rw [← labels_ints h2'.2.1]
    · show (((ms.map numD).length : Nat) : Int) = _
      rw [List.length_map]
      exact h2'.1
  | _ => cases h2
theorem ok_taskb {f : Addr} {fd : FuncData} (B : Blt mg) (gare_labels : Has P w K mg base CX0 2 "are_labels" ["D", "labels"] (spLabels K)) (g_are_inputs : Has P w K mg base CX0 4 "_are_inputs" ["allowed", "labels"] (spInputs K))
    (F : Fun K "is_task" "is_task" sis_task f fd) : FnOk P w K mg base CX0 5 f fd ["task"] (spTaskB K) := by
  have sc : FnScope ["task", "_", "D", "labels", "white", "black"] ["task"] (defScope sis_task) := ⟨rfl, rfl, rfl, by decide +kernel, rfl, by decide +kernel, by decide +kernel⟩
  refine F.ok sc (fun vs H Q E h => ?_) (fun cdv A outer s H vs Q E hr h => ?_)
  · obtain ⟨_, _, _, rfl, _⟩ := h
    rfl
  obtain ⟨M, x, d, rfl, hd, hb, hw, k⟩ := h
  refine ⟨_, (pss_cons (ps_if (PW.pt (pw_or (pt_not (pt_val (pe_callB call_isi (by rfl) B.isinstance (by decide +kernel) (pa_cons (pv 0) (pa_cons (pe_bltn (v := V.ty "tuple") (u := Value.type "tuple") (by rfl) B.tuple (by decide +kernel) rfl) pa_nil))))) (pw_or (pt_cmpR op_nei (pe_callB call_len_seq (by rfl) B.len (by decide +kernel) (pa_cons (pv 0) pa_nil)) pe_int (nomark _)) (pw_or1 (pt_cmpR (op_neD hr.units) (pe_ix ix_tup (pv 0) pe_int (fun _ _ => rfl)) pe_str (nomark _))))))
      (pss_one (ps_ret pe_bl))
      pss_nil)
    (pss_cons (ps_asg (pv 0) (pg_tup rfl (pgs_cons (pg_name (i := 1) sc.nd rfl (Or.inl rfl)) (pgs_cons (pg_name (i := 2) sc.nd rfl (Or.inl rfl)) (pgs_cons (pg_name (i := 3) sc.nd rfl (Or.inl rfl)) (pgs_cons (pg_name (i := 4) sc.nd rfl (Or.inl rfl)) (pgs_cons (pg_name (i := 5) sc.nd rfl (Or.inl rfl)) pgs_nil)))))))
    (pss_cons (ps_if (pt_not (pt_val (pc gare_labels hr (pa_cons (pv 2) (pa_cons (pv 3) pa_nil)))))
      (pss_one (ps_ret pe_bl))
      pss_nil)
    (pss_one (ps_ret (pe_and (pc g_are_inputs hr (pa_cons (pv 4) (pa_cons (pv 3) pa_nil))) (pe_one (pc g_are_inputs hr (pa_cons (pv 5) (pa_cons (pv 3) pa_nil)))))))))), ?_⟩
  have no : isTask d = false → Q (.bl false) H := fun e => by have := k H (Same.refl _); rw [e] at this; exact this
  refine ⟨_, rfl, x, _, _, _, isTup d, rfl, ClsV.ty _, hd.ty, kit_ty (kit_tup d), _, rfl, ?_⟩
  cases ht : isTup d with
  | false =>
    refine iteT ?_
    refine iteT ?_
    exact no (by cases d <;> first | rfl | cases ht)
  | true =>
    refine iteF ?_
    obtain ⟨ds, rfl⟩ := isTup_of ht
    obtain ⟨a, xs, rfl, ha, hx⟩ := dn_tup hd
    refine ⟨_, rfl, a, _, rfl, .inr ha, _, _, rfl, rfl, _, rfl, ?_⟩
    by_cases hl : ds.length = 5
    · obtain ⟨d0, d1, d2, d3, d4, rfl⟩ : ∃ d0 d1 d2 d3 d4, ds = [d0, d1, d2, d3, d4] := by
        match ds, hl with
        | [d0, d1, d2, d3, d4], _ => exact ⟨_, _, _, _, _, rfl⟩
      have e5 : ((xs.length : Nat) : Int) = 5 := by rw [hx.len]; rfl
      rw [decide_eq_true e5]
      refine iteF ?_
      cases hx with
      | @cons v0 _ _ _ h0 hx =>
      cases hx with
      | @cons v1 _ _ _ h1 hx =>
      cases hx with
      | @cons v2 _ _ _ h2 hx =>
      cases hx with
      | @cons v3 _ _ _ h3 hx =>
      cases hx with
      | @cons v4 _ _ _ h4 hx =>
      cases hx
      have sh := hw d0 _ rfl rfl
      have eT : isTask (.tuple [d0, d1, d2, d3, d4]) = (isWord d0 && (areLabels d1 d2 && (areInputs (intsD d2) d3 && areInputs (intsD d2) d4))) := rfl
      rw [eT] at k no
      refine ⟨_, rfl, a, _, _, _, rfl, rfl, ha, at_of (j := 0) rfl rfl, _, _, shaped_dp h0 sh, .str "task", sh, by decide +kernel, _, rfl, ?_⟩
      rw [is_word]
      cases hwd : isWord d0 with
      | false =>
        refine iteT ?_
        exact no (by rw [hwd]; rfl)
      | true =>
        refine iteF ?_
        rw [hwd, Bool.true_and] at k no
        refine ⟨_, rfl, a, _, rfl, ha, rfl, _, _, rfl, _, _, rfl, _, _, rfl, _, _, rfl, _, _, rfl, rfl, ?_⟩
        refine ⟨_, rfl, _, rfl, M, v1, v2, d1, d2, rfl, h1, h2, fun H0 s0 => ⟨_, rfl, ?_⟩⟩
        cases hlb : areLabels d1 d2 with
        | false =>
          refine iteT ?_
          have q := k H0 s0
          rw [hlb] at q
          exact q
        | true =>
          refine iteF ?_
          rw [hlb, Bool.true_and] at k no
          obtain ⟨D, rfl, D2, D4, e2, e2l⟩ := labels_of hlb
          have h2' := h2
          rw [e2] at h2'
          obtain ⟨la, lxs, rfl, hla, hlx⟩ := dn_tup h2'
          rw [ints_vs hlx] at hla
          have few : (intsD d2).length ≤ 1000 := by omega
          refine ⟨_, rfl, _, rfl, M, v3, d3, la, _, rfl, h3.stay (Same.go s0), bulk_mem hb (by simp), s0.seqT hla, few, fun H1 s01 => ?_⟩
          have s1 := s0.trans s01
          refine ⟨_, rfl, ?_⟩
          cases hw3 : areInputs (intsD d2) d3 with
          | false =>
            refine iteF ?_
            have q := k H1 s1
            rw [hw3] at q
            exact q
          | true =>
            refine iteT ?_
            refine ⟨_, rfl, _, rfl, M, v4, d4, la, _, rfl, h4.stay (Same.go s1), bulk_mem hb (by simp), s1.seqT hla, few, fun H2 s2 => ?_⟩
            have q := k H2 (s1.trans s2)
            rw [hw3] at q
            exact q
    · have e5 : ¬ ((xs.length : Nat) : Int) = 5 := by rw [hx.len]; omega
      rw [decide_eq_false e5]
      refine iteT ?_
      refine iteT ?_
      refine no ?_
      match ds, hl with
      | [], _ => rfl
      | [_], _ => rfl
      | [_, _], _ => rfl
      | [_, _, _], _ => rfl
      | [_, _, _, _], _ => rfl
      | [_, _, _, _, _], hl => exact absurd rfl hl
      | _ :: _ :: _ :: _ :: _ :: _ :: _, _ => rfl
def spCheckT (K : PySem.W.Frag) (C : Addr) : Sp := fun vs H Q E => ∃ (M : Addr → Prop) (x : V) (d : PyData), vs = [x] ∧ Dn M K H x d ∧ d.bulk ≤ 1000000 ∧ WordOk d ∧ (isTask d = true → ∀ H', Same H H' → Q .non H') ∧ (isTask d = false → ∀ H', Same H H' → E (.ref C) none H')
theorem ok_checkt {C : Addr} {f : Addr} {fd : FuncData} (eBadTask : Err K mg "BadTask" C) (gis_task : Has P w K mg base CX0 5 "is_task" ["task"] (spTaskB K)) (F : Fun K "check_task" "check_task" scheck_task f fd) : FnOk P w K mg base (L2N.CX P w) 6 f fd ["task"] (spCheckT K C) := by
  have sc : FnScope ["task"] ["task"] (defScope scheck_task) := ⟨rfl, rfl, rfl, by decide +kernel, rfl, by decide +kernel, by decide +kernel⟩
  refine F.okXN sc (fun vs H Q E h => ?_) (fun cdv A outer s H vs Q E hr h => ?_)
  · obtain ⟨_, _, _, rfl, _⟩ := h
    rfl
  obtain ⟨M, x, d, rfl, hd, hb, hw, kt, kf⟩ := h
  refine ⟨_, (pss_one (ps_if (pt_not (pt_val (pc gis_task hr (pa_cons (pv 0) pa_nil))))
      (pss_one (L2N.ps_raise rfl (L2N.takes_of rfl rfl rfl rfl) (L2N.pmk_own PySem.F.excBase_ValueError eBadTask.xi eBadTask.g eBadTask.k (raises_own eBadTask.b eBadTask.t) rfl)))
      pss_nil)), ?_⟩
  refine ⟨_, rfl, M, x, d, rfl, hd, hb, hw, fun H' sm => ⟨_, rfl, ?_⟩⟩
  cases hn : isTask d with
  | true =>
    refine iteF ?_
    exact kt hn H' sm
  | false =>
    refine iteT ?_
    exact kf hn H' sm
/-- the parts of a task -/
theorem task_parts {d : PyData} (h : isTask d = true) : ∃ D ls dW dB, d = .tuple [.str "task", .int D, tupI ls, dW, dB] ∧ 2 ≤ D ∧ D ≤ 4 ∧ ((ls.length : Nat) : Int) = D ∧ areLabels (.int D) (tupI ls) = true ∧ areInputs ls dW = true ∧ areInputs ls dB = true := by
  cases d with
  | tuple ds =>
    match ds, h with
    | [w, dD, dL, dW, dB], h =>
      have h' : (isWord w && (areLabels dD dL && (areInputs (intsD dL) dW && areInputs (intsD dL) dB))) = true := h
      rw [Bool.and_eq_true, Bool.and_eq_true, Bool.and_eq_true] at h'
      obtain ⟨h1, h2, h3, h4⟩ := h'
      obtain ⟨D, rfl, D2, D4, e, el⟩ := labels_of h2
      have ew : w = .str "task" := by
        cases w with
        | str x =>
          have : decide (x = "task") = true := h1
          rw [dec_t this]
        | _ => cases h1
      rw [e] at h2
      exact ⟨D, intsD dL, dW, dB, by rw [ew, ← e], D2, D4, el, h2, h3, h4⟩
  | _ => cases h
end
section
/-! rows of ints -/
theorem eqv_all_i : ∀ a b : List Int, PyData.eqvAll (a.map PyData.int) (b.map PyData.int) = decide (a = b)
  | [], [] => by simp [PyData.eqvAll]
  | [], _ :: _ => by simp [PyData.eqvAll]
  | _ :: _, [] => by simp [PyData.eqvAll]
  | x :: a, y :: b => by
    rw [List.map_cons, List.map_cons, PyData.eqvAll, eqv_all_i a b]
    simp only [PyData.eqv]
    by_cases h : x = y
    · subst h
      simp
    · simp [h]
theorem eqv_i (a b : List Int) : PyData.eqv (tupI a) (tupI b) = decide (a = b) := by
  unfold tupI
  simp only [PyData.eqv]
  exact eqv_all_i a b
theorem any_i (rs : List (List Int)) (r : List Int) : ((rs.map tupI).any fun z => PyData.eqv z (tupI r)) = decide (r ∈ rs) := by
  rw [List.any_map]
  have e : ((fun z => PyData.eqv z (tupI r)) ∘ tupI) = fun a => decide (a = r) := by
    funext a
    exact eqv_i a r
  rw [e]
  induction rs with
  | nil => simp
  | cons a rs ih =>
    rw [List.any_cons, ih]
    by_cases h : a = r
    · simp [h]
    · have h' : ¬ r = a := fun z => h z.symm
      simp [h, h']
theorem lay_i : ∀ a : List Int, PyData.canLayAll0 (a.map PyData.int) = true
  | [] => by simp [PyData.canLayAll0]
  | x :: a => by
    rw [List.map_cons, PyData.canLayAll0, lay_i a]
    simp [PyData.canLay0]
theorem lay_t : ∀ rs : List (List Int), PyData.canLayAll0 (rs.map tupI) = true
  | [] => by simp [PyData.canLayAll0]
  | x :: a => by
    rw [List.map_cons, PyData.canLayAll0, lay_t a]
    unfold tupI
    simp only [PyData.canLay0]
    rw [lay_i]
    rfl
theorem dep_t : ∀ rs : List (List Int), PyData.depthAll (rs.map tupI) ≤ 1
  | [] => by simp [PyData.depthAll]
  | x :: a => by
    have := dep_t a
    rw [List.map_cons, PyData.depthAll, row_depth]
    omega
theorem shaped_i (r : List Int) : SeqAt.shaped (tupI r) = true := by
  unfold SeqAt.shaped
  rw [row_depth]
  unfold tupI
  simp only [PyData.canLay0]
  rw [lay_i]
  rfl
theorem shaped_l (rs : List (List Int)) : SeqAt.shaped (.list (rs.map tupI)) = true := by
  have e : (PyData.list (rs.map tupI)).depth ≤ 64 := by
    simp only [PyData.depth]
    have := dep_t rs
    omega
  unfold SeqAt.shaped
  rw [decide_eq_true e, Bool.and_true]
  simp only [PyData.canLay0]
  exact lay_t rs
theorem row_snoc {ls : List Int} {m : Int} {ns : List Int} {z : Int} (h : ns.length = ls.length) : isRow (ls ++ [m]) (tupI (ns ++ [z])) = (isRow ls (tupI ns) && isNum (.int z) 0 (m - 1)) := by
  show (decide (((ns ++ [z]).map PyData.int).length = (ls ++ [m]).length) && _) = ((decide ((ns.map PyData.int).length = ls.length) && _) && _)
  rw [decide_eq_true (by simp [h]), decide_eq_true (by simp [h]), Bool.true_and, Bool.true_and, List.map_append, List.zip_append (by simp [h]), List.all_append]
  simp
theorem row_nil : isRow [] (tupI []) = true := by decide
theorem row_len {ls ns : List Int} (h : isRow ls (tupI ns) = true) : ns.length = ls.length := by
  have e := (row_ints h).2
  have : intsD (tupI ns) = ns := by
    show (ns.map PyData.int).map numD = ns
    rw [List.map_map]
    exact List.map_id'' (fun x => rfl) ns
  rw [← this]
  exact e
theorem intsD_t (ns : List Int) : intsD (tupI ns) = ns := by
  show (ns.map PyData.int).map numD = ns
  rw [List.map_map]
  exact List.map_id'' (fun x => rfl) ns
/-- the rows of an input -/
def Good (ls : List Int) (rows : List (List Int)) : Prop := rows.length ≤ 5 ∧ (∀ r ∈ rows, isRow ls (tupI r) = true) ∧ rows.Pairwise (· < ·)
theorem le_tr (a b c : List Int) (h1 : leR a b = true) (h2 : leR b c = true) : leR a c = true := by
  unfold leR at *
  simp only [Bool.not_eq_true', decide_eq_false_iff_not] at *
  exact List.le_trans (show a ≤ b from h1) (show b ≤ c from h2)
theorem le_to (a b : List Int) : (leR a b || leR b a) = true := by
  unfold leR
  simp only [Bool.or_eq_true, Bool.not_eq_true', decide_eq_false_iff_not]
  exact List.le_total a b
theorem good_sort {ls : List Int} {rows : List (List Int)} (n5 : rows.length ≤ 5) (nd : rows.Nodup) (ok : ∀ r ∈ rows, isRow ls (tupI r) = true) : Good ls (rows.mergeSort leR) := by
  have pm : (rows.mergeSort leR).Perm rows := List.mergeSort_perm rows leR
  refine ⟨by rw [pm.length_eq]; exact n5, fun r hr => ok r (pm.mem_iff.mp hr), ?_⟩
  have p1 : (rows.mergeSort leR).Pairwise (fun a b => leR a b = true) := List.pairwise_mergeSort le_tr le_to rows
  have p2 : (rows.mergeSort leR).Nodup := pm.nodup_iff.mpr nd
  refine (List.Pairwise.and p1 p2).imp fun {a b} h => ?_
  obtain ⟨h1, h2⟩ := h
  unfold leR at h1
  simp only [Bool.not_eq_true', decide_eq_false_iff_not] at h1
  by_cases q : a < b
  · exact q
  · exact absurd (List.le_antisymm (show a ≤ b from h1) (show b ≤ a from q)) h2
theorem good_rows {ls : List Int} {rows : List (List Int)} (g : Good ls rows) : areRows ls (.tuple (rows.map tupI)) = true := by
  obtain ⟨_, ok, pw⟩ := g
  rw [rows_all, List.all_eq_true]
  intro i hi
  have il : i < rows.length := by simpa using List.mem_range.mp hi
  have gi : (rows.map tupI).getD i .none = tupI rows[i] := getD_of (by simp [il])
  unfold rowAt
  rw [gi, ok _ (List.getElem_mem il), Bool.true_and]
  by_cases h0 : i = 0
  · rw [decide_eq_true h0]
    rfl
  · have il2 : i - 1 < rows.length := by omega
    have g1 : (rows.map tupI).getD (i - 1) .none = tupI rows[i - 1] := getD_of (by simp [il2])
    rw [g1, intsD_t, intsD_t, decide_eq_true (List.pairwise_iff_getElem.mp pw (i - 1) i il2 il (by omega)), Bool.or_true]
end
/-! ### the draws that the law makes of the script -/
section
variable {P : Program} {w : World} {K : PySem.W.Frag} {mg : Str → Option Value} {base : Heap}
/-- a new list of as many small numbers as are asked -/
def spDraws (K : PySem.W.Frag) : Sp := fun vs H Q _ => ∃ (a : Addr) (ns : List Int) (m : Nat), vs = [.ref a, .int m] ∧ SqL K H a (ns.map V.int) ∧ ns.length ≤ 63 ∧ m ≤ 2000 ∧
  ∀ (p : Addr) (H' : Hp) (ds : List Int), H p = none → Same H H' → H' p = some (.lst (ds.map V.int)) → ds.length = m → (∀ d ∈ ds, 0 ≤ d ∧ d < 2 ^ 31) → Q (.ref p) H'
theorem ok_draws {f : Addr} {fd : FuncData} (B : Blt mg) (F : Fun K "_law_draws" "_law_draws" s_law_draws f fd) : FnOk P w K mg base CX0 1 f fd ["script", "many"] (spDraws K) := by
  have sc : FnScope ["script", "many", "rests", "draws", "k", "cell", "mixed", "at"] ["script", "many"] (defScope s_law_draws) := ⟨rfl, rfl, rfl, by decide +kernel, rfl, by decide +kernel, by decide +kernel⟩
  refine F.ok sc (fun vs H Q E h => ?_) (fun cdv A outer s H vs Q E hr h => ?_)
  · obtain ⟨a, ns, m, rfl, _⟩ := h
    rfl
  obtain ⟨a, ns, m, rfl, hS, h63, hm, k⟩ := h
  refine ⟨_, (pss_cons (ps_setLc (i := 2) (own := [("cell", 5)]) (g := gName 5) (tt := tYes) rfl sc.nd rfl rfl (sw_true rfl rfl rfl (by decide +kernel)) (pi_list (pv 0)) (blkOk_by (N := ["script", "many", "rests", "draws", "k", "cell", "mixed", "at"]) (sc := defScope s_law_draws) (by decide +kernel)) (fun _ _ _ _ _ => pg_name (i := 5) sc.nd rfl (Or.inl rfl)) (fun _ _ _ _ _ => pts_nil) (fun _ _ _ _ _ => (pe_callB call_abs (by rfl) B.abs (by decide +kernel) (pa_cons (pe_callTy call_int1 (by rfl) B.int (by decide +kernel) (pa_cons (pv 5) pa_nil)) pa_nil))))
    (pss_cons (ps_set (i := 3) sc.nd rfl (Or.inl rfl) (pe_lst pa_nil))
    (pss_cons (ps_for PassesOwn.never rfl (pi_range1 (by rfl) B.range (pa_cons (pv 1) pa_nil)) (pg_name (i := 4) sc.nd rfl (Or.inl rfl))
      (pss_cons (ps_set (i := 5) sc.nd rfl (Or.inl rfl) (pv 4))
      (pss_cons (ps_if (pt_cmpR op_gt (pe_callB call_len_seq (by rfl) B.len (by decide +kernel) (pa_cons (pv 0) pa_nil)) pe_int (nomark _))
        (pss_cons (ps_set (i := 7) sc.nd rfl (Or.inl rfl) (pe_op op_mod (pv 4) (pe_callB call_len_seq (by rfl) B.len (by decide +kernel) (pa_cons (pv 0) pa_nil))))
        (pss_cons (ps_set (i := 5) sc.nd rfl (Or.inl rfl) (pe_callTy call_int1 (by rfl) B.int (by decide +kernel) (pa_cons (pe_ix ix_list (pv 0) (pv 7) (fun _ _ => rfl)) pa_nil)))
        (pss_one (ps_if (PW.pt (pw_and (pt_cmpR op_ge (pv 5) (pe_op op_pow pe_int pe_int) (nomark _)) (pw_and1 (pt_cmpR op_gt (pe_ix ix_list (pv 2) (pv 7) (fun _ _ => rfl)) pe_int (nomark _)))))
          (pss_cons (ps_expr (pe_bm PySem.F.plainAttrs_list PySem.F.slot_list_append PySem.F.type_list_append mt_append (pv 3) (pa_cons (pe_op op_mod (pe_callTy call_int1 (by rfl) B.int (by decide +kernel) (pa_cons (pe_ix ix_list (pv 2) (pv 7) (fun _ _ => rfl)) pa_nil)) pe_int) pa_nil)))
          (pss_cons (ps_asg (pe_op op_fdiv (pe_callTy call_int1 (by rfl) B.int (by decide +kernel) (pa_cons (pe_ix ix_list (pv 2) (pv 7) (fun _ _ => rfl)) pa_nil)) pe_int) (pg_sub (pv 2) (pv 7) set_list))
          (pss_one ps_continue)))
          pss_nil))))
        pss_nil)
      (pss_cons (ps_set (i := 6) sc.nd rfl (Or.inl rfl) (pe_op op_mod (pe_callTy call_int1 (by rfl) B.int (by decide +kernel) (pa_cons (pe_op op_add (pe_op op_add (pe_op op_mul (pv 5) pe_int) (pe_op op_mul (pv 4) pe_int)) pe_int) pa_nil)) pe_int))
      (pss_cons (ps_set (i := 6) sc.nd rfl (Or.inl rfl) (pe_op op_mod (pe_callTy call_int1 (by rfl) B.int (by decide +kernel) (pa_cons (pe_op op_add (pe_op op_fdiv (pe_op op_mul (pv 6) (pv 6)) pe_int) (pv 6)) pa_nil)) pe_int))
      (pss_one (ps_expr (pe_bm PySem.F.plainAttrs_list PySem.F.slot_list_append PySem.F.type_list_append mt_append (pv 3) (pa_cons (pe_op op_mod (pe_callTy call_int1 (by rfl) B.int (by decide +kernel) (pa_cons (pe_op op_add (pe_op op_fdiv (pe_op op_mul (pv 6) (pv 6)) pe_int) (pe_op op_mul (pv 4) pe_int)) pa_nil)) pe_int) pa_nil)))))))))
    (pss_one (ps_ret (pv 3)))))), ?_⟩
  -- rests
  refine ⟨_, rfl, a, rfl, ⟨_, hS⟩, fun r hr0 => ?_⟩
  refine lc_list (K := K) (a := a) (xs := ns.map V.int) (fun i H' => ∃ acc : List Int, acc.length = i ∧ H' r = some (.lst (acc.map V.int)) ∧ Same H H')
    ⟨[], rfl, upd_same, same_new hr0 _⟩ (fun i H' _ ⟨_, _, _, s⟩ => s.seq hS) ?_ ?_
  · rintro i y H' hi ⟨acc, hl, hD, s⟩
    obtain ⟨z, hz, rfl⟩ := item_of hi
    have hi63 : i < ns.length := (List.getElem?_eq_some_iff.mp hz).1
    refine ⟨rfl, ?_⟩

    refine ⟨_, rfl, .inl ⟨_, rfl, _, rfl, _, hD, small1000 (by rw [List.length_map]; omega), acc ++ [if z < 0 then -z else z], by simp [hl], ?_, same_own s hr0 _⟩⟩
    rw [upd_same, List.map_append]
    rfl
  rintro H1 ⟨rs, hrs, hr1, s1⟩
  rw [List.length_map] at hrs
  -- draws
  refine ⟨Nat.zero_le _, fun p hp1 => ?_⟩
  have hp0 : H p = none := s1.free hp1
  have npr : r ≠ p := ne_of_none hr1 hp1
  -- the loop
  refine ⟨_, rfl, (m : Int), rfl, by omega, by omega, for_range (lo := 0) (n := (m : Int).toNat) (fun i σ H' => ∃ (ds rs : List Int) (kv cv mv av : Option V), σ = [some (.ref a), some (.int m), some (.ref r), some (.ref p), kv, cv, mv, av] ∧
      H' r = some (.lst (rs.map V.int)) ∧ H' p = some (.lst (ds.map V.int)) ∧ rs.length = ns.length ∧ ds.length = i ∧ (∀ d ∈ ds, 0 ≤ d ∧ d < 2 ^ 31) ∧ Same H H')
    ⟨[], rs, none, none, none, none, rfl, by rw [upd_ne npr]; exact hr1, upd_same, hrs, rfl, by simp, same_own s1 hp0 _⟩ ?_ ?_⟩
  · rintro i σ H' hi ⟨ds, rs, kv, cv, mv, av, rfl, hr', hp', hrl, hdl, hb, s⟩
    have hi2 : ds.length < 2000 := by omega
    have grown : ∀ (d : Int), 0 ≤ d → d < 2 ^ 31 → ∀ z ∈ ds ++ [d], 0 ≤ z ∧ z < 2 ^ 31 := fun d h0 h1 z hz => by
      rcases List.mem_append.mp hz with q | q
      · exact hb z q
      · rw [List.mem_singleton.mp q]
        exact ⟨h0, h1⟩
    have put : ∀ (d : Int), (upd H' p (.lst (ds.map V.int ++ [V.int d]))) p = some (.lst ((ds ++ [d]).map V.int)) := fun d => by
      rw [upd_same, List.map_append]
      rfl
    have room : (ds.map V.int).length < sizeLine := by rw [List.length_map]; exact Nat.lt_trans hi2 (by decide)
    have m48 : -(2 ^ 64) < (48271 : Int) ∧ (48271 : Int) < 2 ^ 64 := by decide
    have m69 : -(2 ^ 64) < (69621 : Int) ∧ (69621 : Int) < 2 ^ 64 := by decide
    have m79 : -(2 ^ 64) < (7919 : Int) ∧ (7919 : Int) < 2 ^ 64 := by decide
    have b1 : ∀ x : Int, -(2 ^ 64) < x % 2147483647 ∧ x % 2147483647 < 2 ^ 64 := fun x => by omega
    have b2 : ∀ x : Int, -(2 ^ 64) < x % 2147483629 ∧ x % 2147483629 < 2 ^ 64 := fun x => by omega
    refine ⟨_, rfl, ?_⟩
    refine ⟨_, rfl, a, _, rfl, .inl (s.seq hS), _, _, rfl, rfl, _, rfl, ?_⟩
    refine ite2 (fun c => ?_) (fun c => ?_)
    · have c' := dec_t c
      rw [List.length_map] at c'
      have m0 : 0 ≤ (0 + (i : Int)) % (ns.length : Int) := Int.emod_nonneg _ (by omega)
      have m1 : (0 + (i : Int)) % (ns.length : Int) < (ns.length : Int) := Int.emod_lt_of_pos _ c'
      obtain ⟨z, _, _, hz⟩ := at_int m0 m1
      obtain ⟨y, hy0, _, hy⟩ := at_int (ns := rs) m0 (by rw [hrl]; exact m1)
      refine ⟨_, rfl, _, rfl, a, _, rfl, .inl (s.seq hS), _, _, rfl, rfl, (by rw [List.length_map]; exact c'), ?_⟩
      rw [List.length_map]
      refine ⟨_, rfl, _, rfl, a, _, _, _, rfl, rfl, s.seq hS, hz, .inl ⟨_, rfl, ?_⟩⟩
      refine ⟨_, rfl, _, _, rfl, rfl, ⟨by decide, by decide, by decide⟩, _, _, rfl, rfl, _, rfl, ?_⟩
      refine ite2 (fun _ => ?_) (fun _ => ?_)
      · refine ⟨_, rfl, _, rfl, r, _, _, _, rfl, rfl, SqL.of hr', hy, _, _, rfl, rfl, _, rfl, ?_⟩
        refine ite2 (fun _ => ?_) (fun _ => ?_)
        · refine ⟨_, rfl, .inl ⟨rfl, _, SqL.of hp'⟩, _, rfl, _, rfl, r, _, _, _, rfl, rfl, SqL.of hr', hy, .inl ⟨_, rfl, _, _, rfl, rfl, (by show (0 : Int) < 1000003; decide), p, _, _, rfl, rfl, hp', room, ?_⟩⟩
          have hr2 : (upd H' p (.lst (ds.map V.int ++ [V.int (y % 1000003)]))) r = some (.lst (rs.map V.int)) := by rw [upd_ne npr]; exact hr'
          refine ⟨_, rfl, _, rfl, r, _, _, _, rfl, rfl, SqL.of hr2, hy, .inl ⟨_, rfl, _, _, rfl, rfl, ⟨by decide, by decide⟩, _, rfl, _, rfl, r, _, _, ((0 + (i : Int)) % (ns.length : Int)).toNat, rfl, rfl, hr2, ix_of m0 (by rw [List.length_map, hrl]; exact m1), ?_⟩⟩
          refine ⟨ds ++ [y % 1000003], rs.set ((0 + (i : Int)) % (ns.length : Int)).toNat (y / 1000003), _, _, _, _, rfl, ?_, ?_, by rw [List.length_set]; exact hrl, by rw [List.length_append, List.length_singleton]; omega, grown _ (Int.emod_nonneg _ (by decide)) (Int.lt_trans (Int.emod_lt_of_pos _ (by decide)) (by decide)), same_own (same_own s hp0 _) hr0 _⟩
          · rw [upd_same, List.map_set]
          · rw [upd_ne npr.symm]
            exact put _
        · refine ⟨_, rfl, _, _, rfl, rfl, .inr m48, _, rfl, _, _, rfl, rfl, .inr m69, _, _, rfl, rfl, _, _, rfl, rfl, .inl ⟨_, rfl, _, _, rfl, rfl, (by show (0 : Int) < 2147483647; decide), ?_⟩⟩
          refine ⟨_, rfl, _, rfl, _, _, rfl, rfl, .inl (b1 _), _, _, rfl, rfl, ⟨by decide, by decide⟩, _, rfl, _, _, rfl, rfl, .inl ⟨_, rfl, _, _, rfl, rfl, (by show (0 : Int) < 2147483629; decide), ?_⟩⟩
          refine ⟨_, rfl, .inl ⟨rfl, _, SqL.of hp'⟩, _, rfl, _, rfl, _, _, rfl, rfl, .inl (b2 _), _, _, rfl, rfl, ⟨by decide, by decide⟩, _, rfl, _, _, rfl, rfl, .inr m79, _, _, rfl, rfl, .inl ⟨_, rfl, _, _, rfl, rfl, (by show (0 : Int) < 2147483629; decide), p, _, _, rfl, rfl, hp', room, ?_⟩⟩
          exact ⟨ds ++ [_], rs, _, _, _, _, rfl, by rw [upd_ne npr]; exact hr', put _, hrl, by rw [List.length_append, List.length_singleton]; omega, grown _ (Int.emod_nonneg _ (by decide)) (Int.lt_trans (Int.emod_lt_of_pos _ (by decide)) (by decide)), same_own s hp0 _⟩
      · refine ⟨_, rfl, _, _, rfl, rfl, .inr m48, _, rfl, _, _, rfl, rfl, .inr m69, _, _, rfl, rfl, _, _, rfl, rfl, .inl ⟨_, rfl, _, _, rfl, rfl, (by show (0 : Int) < 2147483647; decide), ?_⟩⟩
        refine ⟨_, rfl, _, rfl, _, _, rfl, rfl, .inl (b1 _), _, _, rfl, rfl, ⟨by decide, by decide⟩, _, rfl, _, _, rfl, rfl, .inl ⟨_, rfl, _, _, rfl, rfl, (by show (0 : Int) < 2147483629; decide), ?_⟩⟩
        refine ⟨_, rfl, .inl ⟨rfl, _, SqL.of hp'⟩, _, rfl, _, rfl, _, _, rfl, rfl, .inl (b2 _), _, _, rfl, rfl, ⟨by decide, by decide⟩, _, rfl, _, _, rfl, rfl, .inr m79, _, _, rfl, rfl, .inl ⟨_, rfl, _, _, rfl, rfl, (by show (0 : Int) < 2147483629; decide), p, _, _, rfl, rfl, hp', room, ?_⟩⟩
        exact ⟨ds ++ [_], rs, _, _, _, _, rfl, by rw [upd_ne npr]; exact hr', put _, hrl, by rw [List.length_append, List.length_singleton]; omega, grown _ (Int.emod_nonneg _ (by decide)) (Int.lt_trans (Int.emod_lt_of_pos _ (by decide)) (by decide)), same_own s hp0 _⟩
    · refine ⟨_, rfl, _, _, rfl, rfl, .inr m48, _, rfl, _, _, rfl, rfl, .inr m69, _, _, rfl, rfl, _, _, rfl, rfl, .inl ⟨_, rfl, _, _, rfl, rfl, (by show (0 : Int) < 2147483647; decide), ?_⟩⟩
      refine ⟨_, rfl, _, rfl, _, _, rfl, rfl, .inl (b1 _), _, _, rfl, rfl, ⟨by decide, by decide⟩, _, rfl, _, _, rfl, rfl, .inl ⟨_, rfl, _, _, rfl, rfl, (by show (0 : Int) < 2147483629; decide), ?_⟩⟩
      refine ⟨_, rfl, .inl ⟨rfl, _, SqL.of hp'⟩, _, rfl, _, rfl, _, _, rfl, rfl, .inl (b2 _), _, _, rfl, rfl, ⟨by decide, by decide⟩, _, rfl, _, _, rfl, rfl, .inr m79, _, _, rfl, rfl, .inl ⟨_, rfl, _, _, rfl, rfl, (by show (0 : Int) < 2147483629; decide), p, _, _, rfl, rfl, hp', room, ?_⟩⟩
      exact ⟨ds ++ [_], rs, _, _, _, _, rfl, by rw [upd_ne npr]; exact hr', put _, hrl, by rw [List.length_append, List.length_singleton]; omega, grown _ (Int.emod_nonneg _ (by decide)) (Int.lt_trans (Int.emod_lt_of_pos _ (by decide)) (by decide)), same_own s hp0 _⟩
  · rintro σ H' ⟨ds, rs, kv, cv, mv, av, rfl, hr', hp', hrl, hdl, hb, s⟩
    exact ⟨_, rfl, k p H' ds hp0 s hp' (by omega) hb⟩
/-- the next draw, below many; the place goes on by one -/
def spTake (K : PySem.W.Frag) : Sp := fun vs H Q _ => ∃ (h d : Addr) (ds : List Int) (i : Nat) (m : Int), vs = [.ref h, .int m] ∧ H h = some (.lst [.ref d, .int i]) ∧ H d = some (.lst (ds.map V.int)) ∧ 0 < m ∧ m < 1000000 ∧
  ∀ r : Int, 0 ≤ r → r < m → Q (.int r) (upd H h (.lst [.ref d, .int ((i + 1 : Nat) : Int)]))
theorem ok_take {f : Addr} {fd : FuncData} (B : Blt mg) (F : Fun K "_law_take" "_law_take" s_law_take f fd) : FnOk P w K mg base CX0 1 f fd ["hand", "many"] (spTake K) := by
  have sc : FnScope ["hand", "many", "at", "draws"] ["hand", "many"] (defScope s_law_take) := ⟨rfl, rfl, rfl, by decide +kernel, rfl, by decide +kernel, by decide +kernel⟩
  refine F.ok sc (fun vs H Q E h => ?_) (fun cdv A outer s H vs Q E hr h => ?_)
  · obtain ⟨h, d, ds, i, m, rfl, _⟩ := h
    rfl
  obtain ⟨h, d, ds, i, m, rfl, hh, hd, m0, m1, k⟩ := h
  refine ⟨_, (pss_cons (ps_set (i := 2) sc.nd rfl (Or.inl rfl) (pe_ix ix_list (pv 0) pe_int (fun _ _ => rfl)))
    (pss_cons (ps_asg (pe_op op_add (pv 2) pe_int) (pg_sub (pv 0) pe_int set_list))
    (pss_cons (ps_set (i := 3) sc.nd rfl (Or.inl rfl) (pe_ix ix_list (pv 0) pe_int (fun _ _ => rfl)))
    (pss_cons (ps_if (pt_cmpR op_ge (pv 2) (pe_callB call_len_seq (by rfl) B.len (by decide +kernel) (pa_cons (pv 3) pa_nil)) (nomark _))
      (pss_one (ps_ret pe_int))
      pss_nil)
    (pss_one (ps_ret (pe_op op_mod (pe_op op_fdiv (pe_callTy call_int1 (by rfl) B.int (by decide +kernel) (pa_cons (pe_ix ix_list (pv 3) (pv 2) (fun _ _ => rfl)) pa_nil)) pe_int) (pv 1)))))))), ?_⟩
  have ndh : d ≠ h := by
    rintro rfl
    rw [hh] at hd
    cases ds with
    | nil => cases hd
    | cons z ds => cases hd
  refine ⟨_, rfl, h, _, _, _, rfl, rfl, SqL.of hh, at_of (j := 1) rfl rfl, ?_⟩
  refine ⟨_, rfl, _, _, rfl, rfl, _, rfl, h, _, _, 1, rfl, rfl, hh, by rfl, ?_⟩
  refine ⟨_, rfl, h, _, _, _, rfl, rfl, SqL.of upd_same, at_of (j := 0) rfl rfl, ?_⟩
  have hd2 : (upd H h (.lst ([V.ref d, V.int (i : Int)].set 1 (.int ((i : Int) + 1))))) d = some (.lst (ds.map V.int)) := by rw [upd_ne ndh]; exact hd
  refine ⟨_, rfl, _, rfl, d, _, rfl, .inl (SqL.of hd2), _, _, rfl, rfl, _, rfl, ?_⟩
  have q : ∀ r : Int, 0 ≤ r → r < m → Q (.int r) (upd H h (.lst ([V.ref d, V.int (i : Int)].set 1 (.int ((i : Int) + 1))))) := k
  refine ite2 (fun _ => q 0 (by decide) m0) (fun c => ?_)
  have c' := dec_f c
  rw [List.length_map] at c'
  obtain ⟨z, _, _, hz⟩ := at_int (ns := ds) (i := (i : Int)) (by omega) (by omega)
  exact ⟨_, rfl, _, rfl, d, _, _, _, rfl, rfl, SqL.of hd2, hz, .inl ⟨_, rfl, _, _, rfl, rfl, ⟨by decide, by decide⟩, _, rfl, _, _, rfl, rfl, m0, q _ (Int.emod_nonneg _ (by omega)) (Int.emod_lt_of_pos _ m0)⟩⟩
end
section
variable {P : Program} {w : World} {K : PySem.W.Frag} {mg : Str → Option Value} {base : Heap}
theorem lt_small {n : Nat} (h : n ≤ 100000) : n < sizeLine := Nat.lt_of_le_of_lt h (by decide)
theorem ints_of {H : Hp} : ∀ {ns : List Int} {vs : List V}, DtAll K H vs (ns.map PyData.int) → vs = ns.map V.int
  | [], _, h => by
    cases h
    rfl
  | n :: ns, _, h => by
    cases h with
    | cons h1 h2 =>
      cases h1
      rw [List.map_cons, ← ints_of h2]
structure AccG (M : Addr → Prop) (K : PySem.W.Frag) (H0 : Hp) (p : Addr) (ds : List PyData) (H : Hp) : Prop where
  free : H0 p = none
  go : Go M H0 H
  ex : ∃ acc, H p = some (.lst acc) ∧ DtAll K H acc ds
theorem AccG.start {M : Addr → Prop} {H0 : Hp} {p : Addr} (h : H0 p = none) : AccG M K H0 p [] (upd H0 p (.lst [])) := ⟨h, Go.new h _, [], upd_same, .nil⟩
theorem AccG.step {M : Addr → Prop} {H0 H H' : Hp} {p : Addr} {ds : List PyData} (a : AccG M K H0 p ds H) (np : ¬ M p) (g : Go M H H') : AccG M K H0 p ds H' := by
  obtain ⟨acc, e, d⟩ := a.ex
  exact ⟨a.free, a.go.trans g, acc, g.out _ _ np e, d.stay g.tups⟩
theorem AccG.push {M : Addr → Prop} {H0 H : Hp} {p : Addr} {ds : List PyData} {v : V} {d : PyData} (a : AccG M K H0 p ds H) (hv : Dt K H v d) :
    ∃ acc, H p = some (.lst acc) ∧ acc.length = ds.length ∧ AccG M K H0 p (ds ++ [d]) (upd H p (.lst (acc ++ [v]))) := by
  obtain ⟨acc, e, d0⟩ := a.ex
  have t := tups_lst (ys := acc ++ [v]) e
  exact ⟨acc, e, d0.len, a.free, a.go.own a.free _, _, upd_same, (d0.stay t).app (.cons (hv.stay t) .nil)⟩
/-- a tuple of rows that have no dict of their own -/
def RowsV (K : PySem.W.Frag) (H : Hp) (v : V) (rows : List (List Int)) : Prop := ∃ a xs, v = .ref a ∧ SqT K H a xs ∧ DtAll K H xs (rows.map tupI) ∧ NdAll H xs
theorem RowsV.stay {H H' : Hp} {v : V} {rows : List (List Int)} (s : TupsStay H H') (h : RowsV K H v rows) : RowsV K H' v rows := by
  obtain ⟨a, xs, rfl, h1, h2, h3⟩ := h
  exact ⟨a, xs, rfl, s.seq h1, h2.stay s, h3.stay s⟩
theorem RowsV.dt {H : Hp} {v : V} {rows : List (List Int)} (h : RowsV K H v rows) : Dt K H v (.tuple (rows.map tupI)) := by
  obtain ⟨a, xs, rfl, h1, h2, _⟩ := h
  exact .tup h1 h2
def NdP (H : Hp) (p : Addr) : Prop := ∀ acc, H p = some (.lst acc) → NdAll H acc
theorem NdP.step {M : Addr → Prop} {H0 H H' : Hp} {p : Addr} {ds : List PyData} (n : NdP H p) (a : AccG M K H0 p ds H) (np : ¬ M p) (g : Go M H H') : NdP H' p := fun acc e => by
  obtain ⟨acc0, e0, _⟩ := a.ex
  rw [g.out _ _ np e0] at e
  cases e
  exact (n _ e0).stay g.tups
theorem NdP.push {H : Hp} {p t : Addr} {acc : List V} (n : NdP H p) (e : H p = some (.lst acc)) (h : Nd H t) : NdP (upd H p (.lst (acc ++ [.ref t]))) p := fun acc2 e2 => by
  rw [upd_same] at e2
  cases e2
  have s := tups_lst (ys := acc ++ [.ref t]) e
  intro t' ht
  rcases List.mem_append.mp ht with q | q
  · exact (n acc e t' q).stay s
  · cases List.mem_singleton.mp q
    exact h.stay s
/-- the labels that a task tells -/
def spLRows (K : PySem.W.Frag) : Sp := fun vs H Q _ => ∃ (h d : Addr) (ds : List Int) (n : Nat) (la : Addr) (ls : List Int), vs = [.ref h, .ref la] ∧ Hand H h d ds n ∧ SqT K H la (ls.map V.int) ∧ 1 ≤ ls.length ∧ ls.length ≤ 4 ∧ (∀ m ∈ ls, 1 ≤ m ∧ m ≤ 60) ∧
  ∀ (v : V) (H' : Hp) (n' : Nat) (rows : List (List Int)), Go (· = h) H H' → Hand H' h d ds n' → RowsV K H' v rows → Good ls rows → Q v H'
theorem hand_out {H0 : Hp} {h d p : Addr} {ds : List Int} {n : Nat} (x : Hand H0 h d ds n) (hp : H0 p = none) : p ≠ h ∧ p ≠ d := ⟨(ne_of_none x.1 hp).symm, (ne_of_none x.2 hp).symm⟩
theorem row_top : ∀ ls : List Int, (∀ m ∈ ls, 1 ≤ m ∧ m ≤ 60) → isRow ls (tupI (ls.map fun m => m - 1)) = true := fun ls => by
  have go : ∀ i, i ≤ ls.length → (∀ m ∈ ls, 1 ≤ m ∧ m ≤ 60) → isRow (ls.take i) (tupI ((ls.take i).map fun m => m - 1)) = true := fun i => by
    induction i with
    | zero =>
      intro _ _
      rw [List.take_zero]
      exact row_nil
    | succ i ih =>
      intro hi ok
      have e : ls[i]? = some ls[i] := List.getElem?_eq_getElem (by omega)
      rw [take_more e, List.map_append]
      show isRow (ls.take i ++ [ls[i]]) (tupI ((ls.take i).map (fun m => m - 1) ++ [ls[i] - 1])) = true
      rw [row_snoc (by rw [List.length_map]), ih (by omega) ok, Bool.true_and]
      have := ok ls[i] (List.getElem_mem _)
      show (decide ((0 : Int) ≤ ls[i] - 1) && decide (ls[i] - 1 ≤ ls[i] - 1)) = true
      rw [decide_eq_true (by omega), decide_eq_true (Int.le_refl _)]
      rfl
  intro ok
  have r := go ls.length (Nat.le_refl _) ok
  rwa [List.take_of_length_le (Nat.le_refl _)] at r
set_option maxHeartbeats 2000000 in
theorem ok_lrows {f : Addr} {fd : FuncData} (B : Blt mg) (g_law_take : Has P w K mg base CX0 1 "_law_take" ["hand", "many"] (spTake K)) (F : Fun K "_law_rows" "_law_rows" s_law_rows f fd) : FnOk P w K mg base CX0 2 f fd ["hand", "labels"] (spLRows K) := by
  have sc : FnScope ["hand", "labels", "rows", "k", "row", "many"] ["hand", "labels"] (defScope s_law_rows) := ⟨rfl, rfl, rfl, by decide +kernel, rfl, by decide +kernel, by decide +kernel⟩
  refine F.ok sc (fun vs H Q E h => ?_) (fun cdv A outer s H vs Q E hr h => ?_)
  · obtain ⟨_, _, _, _, _, _, rfl, _⟩ := h
    rfl
  obtain ⟨h, d, ds, n0, la, ls, rfl, hh, hla, l1, l4, lok, k⟩ := h
  refine ⟨_, (pss_cons (ps_set (i := 2) sc.nd rfl (Or.inl rfl) (pe_lst pa_nil))
    (pss_cons (ps_for PassesOwn.never rfl (pi_range1 (by rfl) B.range (pa_cons (pc g_law_take hr (pa_cons (pv 0) (pa_cons pe_int pa_nil))) pa_nil)) (pg_name (i := 3) sc.nd rfl (Or.inl rfl))
      (pss_cons (ps_set (i := 4) sc.nd rfl (Or.inl rfl) (pe_callTy call_tuple_ofN (by rfl) B.tuple (by decide +kernel) (pa_cons (pe_lc (own := [("many", 5)]) (g := gName 5) (tt := tYes) rfl sc.nd (pi_tup (pv 1)) (blkOk_by (N := ["hand", "labels", "rows", "k", "row", "many"]) (sc := defScope s_law_rows) (by decide +kernel)) (fun _ _ _ _ _ => pg_name (i := 5) sc.nd rfl (Or.inl rfl)) (fun _ _ _ _ _ => pts_nil) (fun _ _ _ _ _ => (pc g_law_take hr (pa_cons (pv 0) (pa_cons (pv 5) pa_nil))))) pa_nil)))
      (pss_cons (ps_if (pt_cmpR op_eqi (pc g_law_take hr (pa_cons (pv 0) (pa_cons pe_int pa_nil))) pe_int (nomark _))
        (pss_one (ps_set (i := 4) sc.nd rfl (Or.inl rfl) (pe_callTy call_tuple_ofN (by rfl) B.tuple (by decide +kernel) (pa_cons (pe_lc (own := [("many", 5)]) (g := gName 5) (tt := tYes) rfl sc.nd (pi_tup (pv 1)) (blkOk_by (N := ["hand", "labels", "rows", "k", "row", "many"]) (sc := defScope s_law_rows) (by decide +kernel)) (fun _ _ _ _ _ => pg_name (i := 5) sc.nd rfl (Or.inl rfl)) (fun _ _ _ _ _ => pts_nil) (fun _ _ _ _ _ => (pe_op op_sub (pv 5) pe_int))) pa_nil))))
        pss_nil)
      (pss_one (ps_if (pt_cmpR (op_notInD hr.units2) (pv 4) (pv 2) (by with_unfolding_all rfl))
        (pss_one (ps_expr (pe_bm PySem.F.plainAttrs_list PySem.F.slot_list_append PySem.F.type_list_append mt_append (pv 2) (pa_cons (pv 4) pa_nil))))
        pss_nil)))))
    (pss_one (ps_ret (pe_callTy call_tuple_of (by rfl) B.tuple (by decide +kernel) (pa_cons (pe_callB (cr_sortN hr.units) (by rfl) B.sorted (by decide +kernel) (pa_cons (pv 2) pa_nil)) pa_nil)))))), ?_⟩
  refine ⟨Nat.zero_le _, fun p hp => ?_⟩
  obtain ⟨nph, npd⟩ := hand_out hh hp
  have hh1 := hh.new hp (.lst [])
  have a0 := AccG.start (M := (· = h)) (K := K) hp
  refine ⟨_, rfl, h, d, ds, n0, 6, rfl, hh1.1, hh1.2, by omega, by omega, fun r r0 r6 => ?_⟩
  have a1 := a0.step nph hh1.go
  have n1 : NdP (upd (upd H p (.lst [])) h (.lst [.ref d, .int ((n0 + 1 : Nat) : Int)])) p := fun acc e => by
    obtain ⟨acc', e', dd⟩ := a1.ex
    rw [e'] at e
    cases e
    cases dd
    exact fun t ht => absurd ht List.not_mem_nil
  refine ⟨r, rfl, by omega, by omega, for_range (lo := 0) (n := r.toNat) (fun i σ H' => ∃ (kv rv : Option V) (n : Nat) (rows : List (List Int)), σ = [some (.ref h), some (.ref la), some (.ref p), kv, rv, none] ∧ Hand H' h d ds n ∧ AccG (· = h) K H p (rows.map tupI) H' ∧
      NdP H' p ∧ rows.length ≤ i ∧ rows.Nodup ∧ ∀ r ∈ rows, isRow ls (tupI r) = true)
    ⟨none, none, _, [], rfl, hh1.next, a1, n1, Nat.le_refl _, List.nodup_nil, fun r hr => absurd hr List.not_mem_nil⟩ ?_ ?_⟩
  · rintro i σ H' hi ⟨kv, rv, n, rows, rfl, hh, a, ndp, len, nd, ok⟩
    refine ⟨_, rfl, la, rfl, ⟨_, a.go.seqT hla⟩, fun q hq => ?_⟩
    obtain ⟨nqh, nqd⟩ := hand_out hh hq
    refine itt_walk (K := K) (a := la) (xs := ls.map V.int) (fun j H1 => ∃ (n1 : Nat) (ns : List Int), Hand H1 h d ds n1 ∧ AccG (· = h) K H' q (ns.map PyData.int) H1 ∧ isRow (ls.take j) (tupI ns) = true) ⟨n, [], hh.new hq _, AccG.start hq, row_nil⟩ (fun j H1 _ ⟨_, _, _, b, _⟩ => b.go.seqT (a.go.seqT hla)) ?_ ?_
    · rintro j y H1 hj ⟨n1, ns, hh1, b, rw1⟩
      obtain ⟨m, hm, rfl⟩ := item_of hj
      have mok := lok m (List.mem_of_getElem? hm)
      refine ⟨rfl, ?_⟩
      refine ⟨_, rfl, _, rfl, h, d, ds, n1, m, rfl, hh1.1, hh1.2, by omega, by omega, fun z z0 zm => ?_⟩
      obtain ⟨acc, e, el, b2⟩ := (b.step nqh hh1.go).push (.int z)
      have nl : ns.length = (ls.take j).length := row_len rw1
      refine ⟨acc, e, lt_small ?_, n1 + 1, ns ++ [z], hh1.next.off nqh nqd _, ?_, ?_⟩
      · rw [el, List.length_map, nl, List.length_take]
        omega
      · rw [List.map_append]
        exact b2
      · rw [take_more hm, row_snoc nl, rw1, Bool.true_and]
        show (decide ((0 : Int) ≤ z) && decide (z ≤ m - 1)) = true
        rw [decide_eq_true z0, decide_eq_true (by omega)]
        rfl
    rintro H1 ⟨n1, ns, hh1, b, rw1⟩
    rw [List.length_map, List.take_of_length_le (Nat.le_refl _)] at rw1
    obtain ⟨acc, eacc, dacc⟩ := b.ex
    have ea : acc = ns.map V.int := ints_of dacc
    rw [ea] at eacc
    refine ⟨q, _, rfl, SqL.of eacc, fun t ob ht hob => ?_⟩
    have st := same_new ht (.frz ob (.tup (ns.map V.int)))
    have hh2 := hh1.same st
    have a2 := a.step nph (b.go.trans (Same.go st))
    have row : Dt K (upd H1 t (.frz ob (.tup (ns.map V.int)))) (.ref t) (tupI ns) := .tup (.inl (.inr ⟨_, upd_same⟩)) (DtAll.ints ns)
    have ndr : Nd (upd H1 t (.frz ob (.tup (ns.map V.int)))) t := ⟨_, _, upd_same, hob⟩
    have ndp2 := ndp.step a nph (b.go.trans (Same.go st))
    refine ⟨_, rfl, h, d, ds, n1, 4, rfl, hh2.1, hh2.2, by omega, by omega, fun z z0 z4 => ⟨_, _, rfl, rfl, _, rfl, ?_⟩⟩
    have hh3 := hh2.next
    have a3 := a2.step nph hh2.go
    have row3 := row.stay hh2.tups
    have ndr3 := ndr.stay hh2.tups
    have ndp3 := ndp2.step a2 nph hh2.go
    -- the row goes to the rows
    refine ite2 (fun _ => ?_) (fun _ => ?_)
    · refine ⟨_, rfl, la, rfl, ⟨_, a3.go.seqT hla⟩, fun q2 hq2 => ?_⟩
      refine itt_walk (K := K) (a := la) (xs := ls.map V.int) (fun j H4 => AccG (· = h) K _ q2 (((ls.take j).map fun m => m - 1).map PyData.int) H4 ∧ Same _ H4) ⟨AccG.start hq2, same_new hq2 _⟩ (fun j H4 _ z => z.1.go.seqT (a3.go.seqT hla)) ?_ ?_
      · rintro j y H4 hj ⟨b4, s4⟩
        obtain ⟨m, hm, rfl⟩ := item_of hj
        refine ⟨rfl, ?_⟩
        refine ⟨_, rfl, _, _, rfl, rfl, ?_⟩
        obtain ⟨acc, e, el, b5⟩ := b4.push (.int (m - 1))
        refine ⟨acc, e, lt_small ?_, ?_, same_own s4 hq2 _⟩
        · rw [el, List.length_map, List.length_map, List.length_take]
          omega
        · rw [take_more hm, List.map_append, List.map_append]
          exact b5
      rintro H4 ⟨b4, s4⟩
      rw [List.length_map, List.take_of_length_le (Nat.le_refl _)] at b4
      obtain ⟨acc4, eacc4, dacc4⟩ := b4.ex
      have ea4 : acc4 = (ls.map fun m => m - 1).map V.int := ints_of dacc4
      rw [ea4] at eacc4
      refine ⟨q2, _, rfl, SqL.of eacc4, fun t4 ob4 ht4 hob4 => ?_⟩
      have st4 := same_new ht4 (.frz ob4 (.tup ((ls.map fun m => m - 1).map V.int)))
      have hh4 := hh3.same (s4.trans st4)
      have a4 := a3.step nph (Same.go (s4.trans st4))
      obtain ⟨rw4, erw⟩ : ∃ x, x = ls.map fun m => m - 1 := ⟨_, rfl⟩
      have row4 : Dt K (upd H4 t4 (.frz ob4 (.tup ((ls.map fun m => m - 1).map V.int)))) (.ref t4) (tupI rw4) := by
        rw [erw]
        exact .tup (.inl (.inr ⟨_, upd_same⟩)) (DtAll.ints _)
      have ndr4 : Nd (upd H4 t4 (.frz ob4 (.tup ((ls.map fun m => m - 1).map V.int)))) t4 := ⟨_, _, upd_same, hob4⟩
      have ndp4 := ndp3.step a3 nph (Same.go (s4.trans st4))
      have row_ok : isRow ls (tupI rw4) = true := by
        rw [erw]
        exact row_top ls lok
      obtain ⟨racc, er, dr⟩ := a4.ex
      refine ⟨_, rfl, _, rfl, tupI rw4, rows.map tupI, row4.dp, .lst (SqL.of er) dr.dp, shaped_i _, shaped_l _, _, rfl, ?_⟩
      rw [any_i]
      by_cases hm : rw4 ∈ rows
      · rw [decide_eq_true hm]
        refine iteF ?_
        exact ⟨_, _, _, rows, rfl, hh4, a4, ndp4, by omega, nd, ok⟩
      · rw [decide_eq_false hm]
        refine iteT ?_
        obtain ⟨acc2, e2, el2, a5⟩ := a4.push row4
        refine ⟨_, rfl, .inl ⟨rfl, _, SqL.of e2⟩, _, rfl, p, _, _, rfl, rfl, e2, lt_small ?_, ?_⟩
        · rw [el2, List.length_map]
          omega
        · refine ⟨_, _, _, rows ++ [rw4], rfl, hh4.off nph npd _, ?_, ndp4.push e2 ndr4, by rw [List.length_append, List.length_singleton]; omega, ?_, fun r hr => ?_⟩
          · rw [List.map_append]
            exact a5
          · rw [List.nodup_append]
            exact ⟨nd, by simp, fun x hx y hy => by rw [List.mem_singleton.mp hy]; exact fun e => hm (e ▸ hx)⟩
          · rcases List.mem_append.mp hr with hr | hr
            · exact ok r hr
            · rw [List.mem_singleton.mp hr]
              exact row_ok
    · have hh4 := hh3
      have a4 := a3
      obtain ⟨rw4, erw⟩ : ∃ x, x = ns := ⟨_, rfl⟩
      have row4 := row3
      have ndr4 := ndr3
      have ndp4 := ndp3
      have e4 : tupI ns = tupI rw4 := by rw [erw]
      rw [e4] at row4
      have row_ok : isRow ls (tupI rw4) = true := by
        rw [erw]
        exact rw1
      obtain ⟨racc, er, dr⟩ := a4.ex
      refine ⟨_, rfl, _, rfl, tupI rw4, rows.map tupI, row4.dp, .lst (SqL.of er) dr.dp, shaped_i _, shaped_l _, _, rfl, ?_⟩
      rw [any_i]
      by_cases hm : rw4 ∈ rows
      · rw [decide_eq_true hm]
        refine iteF ?_
        exact ⟨_, _, _, rows, rfl, hh4, a4, ndp4, by omega, nd, ok⟩
      · rw [decide_eq_false hm]
        refine iteT ?_
        obtain ⟨acc2, e2, el2, a5⟩ := a4.push row4
        refine ⟨_, rfl, .inl ⟨rfl, _, SqL.of e2⟩, _, rfl, p, _, _, rfl, rfl, e2, lt_small ?_, ?_⟩
        · rw [el2, List.length_map]
          omega
        · refine ⟨_, _, _, rows ++ [rw4], rfl, hh4.off nph npd _, ?_, ndp4.push e2 ndr4, by rw [List.length_append, List.length_singleton]; omega, ?_, fun r hr => ?_⟩
          · rw [List.map_append]
            exact a5
          · rw [List.nodup_append]
            exact ⟨nd, by simp, fun x hx y hy => by rw [List.mem_singleton.mp hy]; exact fun e => hm (e ▸ hx)⟩
          · rcases List.mem_append.mp hr with hr | hr
            · exact ok r hr
            · rw [List.mem_singleton.mp hr]
              exact row_ok
  · rintro σ H' ⟨kv, rv, n, rows, rfl, hh, a, ndp, len, nd, ok⟩
    obtain ⟨racc, er, dr⟩ := a.ex
    have few : rows.length ≤ 5 := by omega
    refine ⟨_, rfl, p, racc, rows, rfl, SqL.of er, dr, ndp racc er, by omega, fun r hr e => ?_, fun ys p2 hp2 dy ny => ?_⟩
    · have := row_len (ok r hr)
      rw [e] at this
      simp only [List.length_nil] at this
      omega
    have s2 := same_new hp2 (.lst ys)
    refine ⟨p2, _, rfl, .inl ⟨SqL.of upd_same, fun t ht => ?_⟩⟩
    have s3 := s2.trans (same_new ht (.tup ys))
    exact k _ _ n _ (a.go.trans (Same.go s3)) (hh.same s3) ⟨t, ys, rfl, SqT.of upd_same, dy.stay s3.tups, ny.stay s3.tups⟩ (good_sort few nd ok)
end
section
variable {P : Program} {w : World} {K : PySem.W.Frag} {mg : Str → Option Value} {base : Heap}
def LabOk (D : Int) (ls : List Int) : Prop := ((ls.length : Nat) : Int) = D ∧ (∀ m ∈ ls, 1 ≤ m ∧ m ≤ 60) ∧ prodD (ls.map PyData.int) ≤ 4000
def spLLabels (K : PySem.W.Frag) : Sp := fun vs H Q _ => ∃ (h d : Addr) (ds : List Int) (n : Nat) (D : Int), vs = [.ref h, .int D] ∧ Hand H h d ds n ∧ 2 ≤ D ∧ D ≤ 4 ∧
  ∀ (la : Addr) (H' : Hp) (n' : Nat) (ls : List Int), Go (· = h) H H' → Hand H' h d ds n' → SqT K H' la (ls.map V.int) → LabOk D ls → Q (.ref la) H'
set_option maxHeartbeats 1000000 in
theorem ok_llabels {f : Addr} {fd : FuncData} (B : Blt mg) (g_law_take : Has P w K mg base CX0 1 "_law_take" ["hand", "many"] (spTake K)) (F : Fun K "_law_labels" "_law_labels" s_law_labels f fd) : FnOk P w K mg base CX0 2 f fd ["hand", "colours"] (spLLabels K) := by
  have sc : FnScope ["hand", "colours", "shape", "wide", "c"] ["hand", "colours"] (defScope s_law_labels) := ⟨rfl, rfl, rfl, by decide +kernel, rfl, by decide +kernel, by decide +kernel⟩
  refine F.ok sc (fun vs H Q E h => ?_) (fun cdv A outer s H vs Q E hr h => ?_)
  · obtain ⟨_, _, _, _, _, rfl, _⟩ := h
    rfl
  obtain ⟨h, d, ds, n0, D, rfl, hh, D2, D4, k⟩ := h
  refine ⟨_, (pss_cons (ps_set (i := 2) sc.nd rfl (Or.inl rfl) (pc g_law_take hr (pa_cons (pv 0) (pa_cons pe_int pa_nil))))
    (pss_cons (ps_if (pt_cmpR op_eqi (pv 2) pe_int (nomark _))
      (pss_cons (ps_set (i := 3) sc.nd rfl (Or.inl rfl) (pe_lst (pa_cons (pe_lst (pa_cons (pe_tup (pa_cons pe_int (pa_cons pe_int pa_nil))) (pa_cons (pe_tup (pa_cons pe_int (pa_cons pe_int pa_nil))) (pa_cons (pe_tup (pa_cons pe_int (pa_cons pe_int pa_nil))) pa_nil)))) (pa_cons (pe_lst (pa_cons (pe_tup (pa_cons pe_int (pa_cons pe_int (pa_cons pe_int pa_nil)))) (pa_cons (pe_tup (pa_cons pe_int (pa_cons pe_int (pa_cons pe_int pa_nil)))) (pa_cons (pe_tup (pa_cons pe_int (pa_cons pe_int (pa_cons pe_int pa_nil)))) pa_nil)))) pa_nil))))
      (pss_cons (ps_expr (pe_bm PySem.F.plainAttrs_list PySem.F.slot_list_append PySem.F.type_list_append mt_append (pv 3) (pa_cons (pe_lst (pa_cons (pe_tup (pa_cons pe_int (pa_cons pe_int (pa_cons pe_int (pa_cons pe_int pa_nil))))) (pa_cons (pe_tup (pa_cons pe_int (pa_cons pe_int (pa_cons pe_int (pa_cons pe_int pa_nil))))) (pa_cons (pe_tup (pa_cons pe_int (pa_cons pe_int (pa_cons pe_int (pa_cons pe_int pa_nil))))) pa_nil)))) pa_nil)))
      (pss_one (ps_ret (pe_ix ix_list (pe_ix ix_list (pv 3) (pe_op op_sub (pv 1) pe_int) (fun _ _ => rfl)) (pc g_law_take hr (pa_cons (pv 0) (pa_cons pe_int pa_nil))) (fun _ _ => rfl))))))
      pss_nil)
    (pss_one (ps_ret (pe_callTy call_tuple_of (by rfl) B.tuple (by decide +kernel) (pa_cons (pe_lc (own := [("c", 4)]) (g := gName 4) (tt := tYes) rfl sc.nd (pi_range1 (by rfl) B.range (pa_cons (pv 1) pa_nil)) (blkOk_by (N := ["hand", "colours", "shape", "wide", "c"]) (sc := defScope s_law_labels) (by decide +kernel)) (fun _ _ _ _ _ => pg_name (i := 4) sc.nd rfl (Or.inl rfl)) (fun _ _ _ _ _ => pts_nil) (fun _ _ _ _ _ => (pe_op op_add pe_int (pc g_law_take hr (pa_cons (pv 0) (pa_cons pe_int pa_nil)))))) pa_nil)))))), ?_⟩
  refine ⟨_, rfl, h, d, ds, n0, 4, rfl, hh.1, hh.2, by omega, by omega, fun sh sh0 sh1 => ?_⟩
  have hh1 := hh.next
  refine ⟨_, rfl, _, _, rfl, rfl, _, rfl, ?_⟩
  refine ite2 (fun _ => ?_) (fun _ => ?_)
  · refine ⟨(by show 2 ≤ sizeLine; decide), fun t1 h1 => ⟨(by show 2 ≤ sizeLine; decide), fun t2 h2 => ⟨(by show 2 ≤ sizeLine; decide), fun t3 h3 => ⟨(by show 3 ≤ sizeLine; decide), fun l1 hl1 => ⟨(by show 3 ≤ sizeLine; decide), fun t4 h4 => ⟨(by show 3 ≤ sizeLine; decide), fun t5 h5 => ⟨(by show 3 ≤ sizeLine; decide), fun t6 h6 => ⟨(by show 3 ≤ sizeLine; decide), fun l2 hl2 => ⟨(by show 2 ≤ sizeLine; decide), fun wd hwd => ?_⟩⟩⟩⟩⟩⟩⟩⟩⟩
    have a1 := same_new h1 (.tup [.int 60, .int 60])
    have a2 := same_new h2 (.tup [.int 1, .int 60])
    have a3 := same_new h3 (.tup [.int 59, .int 60])
    have a4 := same_new hl1 (.lst [.ref t1, .ref t2, .ref t3])
    have a5 := same_new h4 (.tup [.int 20, .int 20, .int 10])
    have a6 := same_new h5 (.tup [.int 16, .int 16, .int 15])
    have a7 := same_new h6 (.tup [.int 60, .int 60, .int 1])
    have a8 := same_new hl2 (.lst [.ref t4, .ref t5, .ref t6])
    have a9 := same_new hwd (.lst [.ref l1, .ref l2])
    refine ⟨_, rfl, .inl ⟨rfl, _, SqL.of upd_same⟩, (by show 4 ≤ sizeLine; decide), fun t7 h7 => ⟨(by show 4 ≤ sizeLine; decide), fun t8 h8 => ⟨(by show 4 ≤ sizeLine; decide), fun t9 h9 => ⟨(by show 3 ≤ sizeLine; decide), fun l3 hl3 => ?_⟩⟩⟩⟩
    have b1 := same_new h7 (.tup [.int 10, .int 10, .int 10, .int 4])
    have b2 := same_new h8 (.tup [.int 8, .int 8, .int 8, .int 7])
    have b3 := same_new h9 (.tup [.int 1, .int 60, .int 1, .int 60])
    have b4 := same_new hl3 (.lst [.ref t7, .ref t8, .ref t9])
    have bb := ((b1.trans b2).trans b3).trans b4
    have ew := bb _ _ (upd_same (a := wd) (o := .lst [.ref l1, .ref l2]))
    refine ⟨wd, _, _, rfl, rfl, ew, (by show 2 < sizeLine; decide), ?_⟩
    have gw := Go.put (M := (· = wd)) (ys := [.ref l1, .ref l2] ++ [.ref l3]) rfl ew
    -- the lists
    have c8 := a9.trans bb
    have c4 := (((a5.trans a6).trans a7).trans a8).trans c8
    have n1 : ¬ l1 = wd := ne_of_none ((((a5.trans a6).trans a7).trans a8) _ _ (upd_same (a := l1) (o := .lst [.ref t1, .ref t2, .ref t3]))) hwd
    have n2 : ¬ l2 = wd := ne_of_none (upd_same (a := l2) (o := .lst [.ref t4, .ref t5, .ref t6])) hwd
    have n3 : ¬ l3 = wd := (ne_of_none (((b1.trans b2).trans b3) _ _ (upd_same (a := wd) (o := .lst [.ref l1, .ref l2]))) hl3).symm
    have e1 := gw.out _ _ n1 (c4 _ _ (upd_same (a := l1) (o := .lst [.ref t1, .ref t2, .ref t3])))
    have e2 := gw.out _ _ n2 (c8 _ _ (upd_same (a := l2) (o := .lst [.ref t4, .ref t5, .ref t6])))
    have e3 := gw.out _ _ n3 (upd_same (a := l3) (o := .lst [.ref t7, .ref t8, .ref t9]))
    have f1 := gw.seqT (K := K) (((a2.trans a3).trans (a4.trans c4)).seqT (SqT.of (upd_same (a := t1) (o := .tup [.int 60, .int 60]))))
    have f2 := gw.seqT (K := K) ((a3.trans (a4.trans c4)).seqT (SqT.of (upd_same (a := t2) (o := .tup [.int 1, .int 60]))))
    have f3 := gw.seqT (K := K) ((a4.trans c4).seqT (SqT.of (upd_same (a := t3) (o := .tup [.int 59, .int 60]))))
    have f4 := gw.seqT (K := K) (((a6.trans a7).trans (a8.trans c8)).seqT (SqT.of (upd_same (a := t4) (o := .tup [.int 20, .int 20, .int 10]))))
    have f5 := gw.seqT (K := K) ((a7.trans (a8.trans c8)).seqT (SqT.of (upd_same (a := t5) (o := .tup [.int 16, .int 16, .int 15]))))
    have f6 := gw.seqT (K := K) ((a8.trans c8).seqT (SqT.of (upd_same (a := t6) (o := .tup [.int 60, .int 60, .int 1]))))
    have f7 := gw.seqT (K := K) (((b2.trans b3).trans b4).seqT (SqT.of (upd_same (a := t7) (o := .tup [.int 10, .int 10, .int 10, .int 4]))))
    have f8 := gw.seqT (K := K) ((b3.trans b4).seqT (SqT.of (upd_same (a := t8) (o := .tup [.int 8, .int 8, .int 8, .int 7]))))
    have f9 := gw.seqT (K := K) (b4.seqT (SqT.of (upd_same (a := t9) (o := .tup [.int 1, .int 60, .int 1, .int 60]))))
    have a14 := ((a1.trans a2).trans a3).trans a4
    have hw0 := hh1.same (a14.trans (((a5.trans a6).trans a7).trans a8))
    have hw1 := hw0.same (a9.trans bb)
    have nwh := hand_out hw0 hwd
    have hh2 := hw1.off nwh.1 nwh.2 (.lst ([.ref l1, .ref l2] ++ [.ref l3]))
    have g2 : Go (· = h) H _ := hh.go.trans ((Same.go (a14.trans (((a5.trans a6).trans a7).trans a8))).trans ((Same.go (a9.trans bb)).own hwd (.lst ([.ref l1, .ref l2] ++ [.ref l3]))))
    have ok9 : ∀ {ls : List Int} {t : Addr}, SqT K _ t (ls.map V.int) → LabOk D ls → Q (.ref t) _ := fun {ls t} st lo => k t _ _ ls (g2.trans hh2.go) hh2.next (hh2.tups.seq st) lo
    have goL : ∀ {l : Addr} {xs : List V}, (upd _ wd _) l = some (.lst xs) → ¬ l = h → SqL K _ l xs := fun {l xs} e n => SqL.of (hh2.go.out _ _ n e)
    have m1 : ¬ l1 = h := ne_of e1 hh2.1 (by simp)
    have m2 : ¬ l2 = h := ne_of e2 hh2.1 (by simp)
    have m3 : ¬ l3 = h := ne_of e3 hh2.1 (by simp)
    rcases (show D = 2 ∨ D = 3 ∨ D = 4 by omega) with rfl | rfl | rfl
    · refine ⟨_, rfl, _, rfl, _, _, rfl, rfl, wd, _, _, .ref l1, rfl, rfl, SqL.of upd_same, at_of (j := 0) rfl rfl, _, rfl, h, d, ds, _, 3, rfl, hh2.1, hh2.2, by omega, by omega, fun q q0 q3 => ?_⟩
      rcases (show q = 0 ∨ q = 1 ∨ q = 2 by omega) with rfl | rfl | rfl
      · exact ⟨l1, _, _, _, rfl, rfl, goL e1 m1, at_of (j := 0) rfl rfl, ok9 (ls := [60, 60]) f1 ⟨rfl, by decide, by decide⟩⟩
      · exact ⟨l1, _, _, _, rfl, rfl, goL e1 m1, at_of (j := 1) rfl rfl, ok9 (ls := [1, 60]) f2 ⟨rfl, by decide, by decide⟩⟩
      · exact ⟨l1, _, _, _, rfl, rfl, goL e1 m1, at_of (j := 2) rfl rfl, ok9 (ls := [59, 60]) f3 ⟨rfl, by decide, by decide⟩⟩
    · refine ⟨_, rfl, _, rfl, _, _, rfl, rfl, wd, _, _, .ref l2, rfl, rfl, SqL.of upd_same, at_of (j := 1) rfl rfl, _, rfl, h, d, ds, _, 3, rfl, hh2.1, hh2.2, by omega, by omega, fun q q0 q3 => ?_⟩
      rcases (show q = 0 ∨ q = 1 ∨ q = 2 by omega) with rfl | rfl | rfl
      · exact ⟨l2, _, _, _, rfl, rfl, goL e2 m2, at_of (j := 0) rfl rfl, ok9 (ls := [20, 20, 10]) f4 ⟨rfl, by decide, by decide⟩⟩
      · exact ⟨l2, _, _, _, rfl, rfl, goL e2 m2, at_of (j := 1) rfl rfl, ok9 (ls := [16, 16, 15]) f5 ⟨rfl, by decide, by decide⟩⟩
      · exact ⟨l2, _, _, _, rfl, rfl, goL e2 m2, at_of (j := 2) rfl rfl, ok9 (ls := [60, 60, 1]) f6 ⟨rfl, by decide, by decide⟩⟩
    · refine ⟨_, rfl, _, rfl, _, _, rfl, rfl, wd, _, _, .ref l3, rfl, rfl, SqL.of upd_same, at_of (j := 2) rfl rfl, _, rfl, h, d, ds, _, 3, rfl, hh2.1, hh2.2, by omega, by omega, fun q q0 q3 => ?_⟩
      rcases (show q = 0 ∨ q = 1 ∨ q = 2 by omega) with rfl | rfl | rfl
      · exact ⟨l3, _, _, _, rfl, rfl, goL e3 m3, at_of (j := 0) rfl rfl, ok9 (ls := [10, 10, 10, 4]) f7 ⟨rfl, by decide, by decide⟩⟩
      · exact ⟨l3, _, _, _, rfl, rfl, goL e3 m3, at_of (j := 1) rfl rfl, ok9 (ls := [8, 8, 8, 7]) f8 ⟨rfl, by decide, by decide⟩⟩
      · exact ⟨l3, _, _, _, rfl, rfl, goL e3 m3, at_of (j := 2) rfl rfl, ok9 (ls := [1, 60, 1, 60]) f9 ⟨rfl, by decide, by decide⟩⟩
  · refine ⟨_, rfl, D, rfl, by omega, by omega, fun p hp => ?_⟩
    obtain ⟨nph, npd⟩ := hand_out hh1 hp
    refine itr_walk (lo := 0) (n := D.toNat) (fun i H1 => ∃ (n1 : Nat) (ns : List Int), Hand H1 h d ds n1 ∧ AccG (· = h) K _ p (ns.map PyData.int) H1 ∧ ns.length = i ∧ (∀ m ∈ ns, 1 ≤ m ∧ m ≤ 60) ∧ 1 ≤ prodD (ns.map PyData.int) ∧ prodD (ns.map PyData.int) ≤ 3 ^ i) ⟨_, [], hh1.new hp _, AccG.start hp, rfl, fun m hm => absurd hm List.not_mem_nil, by decide, by decide⟩ ?_ ?_
    · rintro i H1 hi ⟨n1, ns, hh2, b, len, ok, p1, p2⟩
      refine ⟨rfl, ?_⟩
      refine ⟨_, rfl, h, d, ds, n1, 3, rfl, hh2.1, hh2.2, by omega, by omega, fun z z0 z3 => ⟨_, _, rfl, rfl, ?_⟩⟩
      obtain ⟨acc, e, el, b2⟩ := (b.step nph hh2.go).push (.int (1 + z))
      refine ⟨acc, e, lt_small ?_, n1 + 1, ns ++ [1 + z], hh2.next.off nph npd _, ?_, ?_, fun m hm => ?_, ?_, ?_⟩
      · rw [el, List.length_map]
        omega
      · rw [List.map_append]
        exact b2
      · rw [List.length_append, len]
        rfl
      · rcases List.mem_append.mp hm with hm | hm
        · exact ok m hm
        · rw [List.mem_singleton.mp hm]
          omega
      · rw [List.map_append]
        show 1 ≤ prodD (ns.map PyData.int ++ [.int (1 + z)])
        rw [prod_more]
        show 1 ≤ prodD (ns.map PyData.int) * (1 + z)
        have := Int.mul_le_mul p1 (show (1 : Int) ≤ 1 + z by omega) (by decide) (by omega)
        omega
      · rw [List.map_append]
        show prodD (ns.map PyData.int ++ [.int (1 + z)]) ≤ 3 ^ (i + 1)
        rw [prod_more, Int.pow_succ]
        exact Int.mul_le_mul p2 (show 1 + z ≤ (3 : Int) by omega) (show (0 : Int) ≤ 1 + z by omega) (Int.le_of_lt (Int.pow_pos (by decide)))
    · rintro H1 ⟨n1, ns, hh2, b, len, ok, p1, p2⟩
      obtain ⟨acc, eacc, dacc⟩ := b.ex
      have ea : acc = ns.map V.int := ints_of dacc
      rw [ea] at eacc
      refine ⟨p, _, rfl, .inl ⟨SqL.of eacc, fun t ht => ?_⟩⟩
      have st := same_new ht (.tup (ns.map V.int))
      have p4 : (3 : Int) ^ D.toNat ≤ 4000 := by
        have : ∀ n, n < 5 → (3 : Int) ^ n ≤ 4000 := by decide
        exact this _ (by omega)
      exact k t _ n1 ns (hh.go.trans (b.go.trans (Same.go st))) (hh2.same st) (SqT.of upd_same) ⟨by omega, ok, Int.le_trans p2 p4⟩

def sideD (W : List (List (List Int))) : PyData := .tuple (W.map fun rows => .tuple (rows.map tupI))
def taskD (D : Int) (ls : List Int) (W B : List (List (List Int))) : PyData := .tuple [.str "task", .int D, tupI ls, sideD W, sideD B]
def GoodS (ls : List Int) (W : List (List (List Int))) : Prop := 1 ≤ W.length ∧ W.length ≤ 4 ∧ ∀ rows ∈ W, Good ls rows
inductive RAll (K : PySem.W.Frag) (H : Hp) : List V → List (List (List Int)) → Prop
  | nil : RAll K H [] []
  | cons {v : V} {vs : List V} {rows : List (List Int)} {W : List (List (List Int))} : RowsV K H v rows → RAll K H vs W → RAll K H (v :: vs) (rows :: W)
theorem RAll.stay {H H' : Hp} (s : TupsStay H H') : ∀ {vs : List V} {W : List (List (List Int))}, RAll K H vs W → RAll K H' vs W
  | _, _, .nil => .nil
  | _, _, .cons h a => .cons (h.stay s) (a.stay s)
theorem RAll.len {H : Hp} : ∀ {vs : List V} {W : List (List (List Int))}, RAll K H vs W → vs.length = W.length
  | _, _, .nil => rfl
  | _, _, .cons _ a => by rw [List.length_cons, List.length_cons, a.len]
theorem RAll.app {H : Hp} : ∀ {vs ws : List V} {W B : List (List (List Int))}, RAll K H vs W → RAll K H ws B → RAll K H (vs ++ ws) (W ++ B)
  | _, _, _, _, .nil, b => b
  | _, _, _, _, .cons h a, b => .cons h (a.app b)
theorem RAll.dt {H : Hp} : ∀ {vs : List V} {W : List (List (List Int))}, RAll K H vs W → DtAll K H vs (W.map fun rows => PyData.tuple (rows.map tupI))
  | _, _, .nil => .nil
  | _, _, .cons h a => .cons h.dt a.dt
theorem RAll.at {H : Hp} : ∀ {vs : List V} {W : List (List (List Int))} {i : Nat}, RAll K H vs W → i < W.length → ∃ v, vs[i]? = some v ∧ RowsV K H v (W.getD i [])
  | _, _, _, .nil, h => absurd h (Nat.not_lt_zero _)
  | _, _, 0, .cons h _, _ => ⟨_, rfl, h⟩
  | _, _, i + 1, .cons _ a, h => by
    obtain ⟨v, h1, h2⟩ := a.at (i := i) (by simpa using h)
    exact ⟨v, by simpa using h1, by simpa using h2⟩
structure AccR (M : Addr → Prop) (K : PySem.W.Frag) (H0 : Hp) (p : Addr) (W : List (List (List Int))) (H : Hp) : Prop where
  free : H0 p = none
  go : Go M H0 H
  ex : ∃ acc, H p = some (.lst acc) ∧ RAll K H acc W
theorem AccR.start {M : Addr → Prop} {H0 : Hp} {p : Addr} (h : H0 p = none) : AccR M K H0 p [] (upd H0 p (.lst [])) := ⟨h, Go.new h _, [], upd_same, .nil⟩
theorem AccR.step {M : Addr → Prop} {H0 H H' : Hp} {p : Addr} {W : List (List (List Int))} (a : AccR M K H0 p W H) (np : ¬ M p) (g : Go M H H') : AccR M K H0 p W H' := by
  obtain ⟨acc, e, d⟩ := a.ex
  exact ⟨a.free, a.go.trans g, acc, g.out _ _ np e, d.stay g.tups⟩
theorem AccR.push {M : Addr → Prop} {H0 H : Hp} {p : Addr} {W : List (List (List Int))} {v : V} {rows : List (List Int)} (a : AccR M K H0 p W H) (hv : RowsV K H v rows) :
    ∃ acc, H p = some (.lst acc) ∧ acc.length = W.length ∧ AccR M K H0 p (W ++ [rows]) (upd H p (.lst (acc ++ [v]))) := by
  obtain ⟨acc, e, d0⟩ := a.ex
  have t := tups_lst (ys := acc ++ [v]) e
  exact ⟨acc, e, d0.len, a.free, a.go.own a.free _, _, upd_same, (d0.stay t).app (.cons (hv.stay t) .nil)⟩
def SideV (K : PySem.W.Frag) (H : Hp) (v : V) (W : List (List (List Int))) : Prop := ∃ a xs, v = .ref a ∧ SqT K H a xs ∧ RAll K H xs W
theorem SideV.stay {H H' : Hp} {v : V} {W : List (List (List Int))} (s : TupsStay H H') (h : SideV K H v W) : SideV K H' v W := by
  obtain ⟨a, xs, rfl, h1, h2⟩ := h
  exact ⟨a, xs, rfl, s.seq h1, h2.stay s⟩
theorem SideV.dt {H : Hp} {v : V} {W : List (List (List Int))} (h : SideV K H v W) : Dt K H v (sideD W) := by
  obtain ⟨a, xs, rfl, h1, h2⟩ := h
  exact .tup h1 h2.dt
def TaskV (K : PySem.W.Frag) (H : Hp) (v : V) (D : Int) (ls : List Int) (W B : List (List (List Int))) : Prop := ∃ a la wv bv, v = .ref a ∧ SqT K H a [.str "task", .int D, .ref la, wv, bv] ∧ SqT K H la (ls.map V.int) ∧ SideV K H wv W ∧ SideV K H bv B
theorem TaskV.stay {H H' : Hp} {v : V} {D : Int} {ls : List Int} {W B : List (List (List Int))} (s : TupsStay H H') (h : TaskV K H v D ls W B) : TaskV K H' v D ls W B := by
  obtain ⟨a, la, wv, bv, rfl, h1, h2, h3, h4⟩ := h
  exact ⟨a, la, wv, bv, rfl, s.seq h1, s.seq h2, h3.stay s, h4.stay s⟩
theorem TaskV.dt {H : Hp} {v : V} {D : Int} {ls : List Int} {W B : List (List (List Int))} (h : TaskV K H v D ls W B) : Dt K H v (taskD D ls W B) := by
  obtain ⟨a, la, wv, bv, rfl, h1, h2, h3, h4⟩ := h
  exact .tup h1 (.cons (.str _) (.cons (.int _) (.cons (.tup h2 (DtAll.ints ls)) (.cons h3.dt (.cons h4.dt .nil)))))
def spLTask (K : PySem.W.Frag) : Sp := fun vs H Q _ => ∃ (h d : Addr) (ds : List Int) (n : Nat), vs = [.ref h] ∧ Hand H h d ds n ∧
  ∀ (a : Addr) (H' : Hp) (n' : Nat) (D : Int) (ls : List Int) (W B : List (List (List Int))), Go (· = h) H H' → Hand H' h d ds n' → 2 ≤ D → D ≤ 4 → LabOk D ls → GoodS ls W → GoodS ls B → TaskV K H' (.ref a) D ls W B → Q (.ref a) H'
theorem ok_ltask {f : Addr} {fd : FuncData} (B : Blt mg) (g_law_take : Has P w K mg base CX0 1 "_law_take" ["hand", "many"] (spTake K)) (g_law_labels : Has P w K mg base CX0 2 "_law_labels" ["hand", "colours"] (spLLabels K)) (g_law_rows : Has P w K mg base CX0 2 "_law_rows" ["hand", "labels"] (spLRows K))
    (F : Fun K "_law_task" "_law_task" s_law_task f fd) : FnOk P w K mg base CX0 3 f fd ["hand"] (spLTask K) := by
  have sc : FnScope ["hand", "colours", "labels", "white", "black", "x", "y"] ["hand"] (defScope s_law_task) := ⟨rfl, rfl, rfl, by decide +kernel, rfl, by decide +kernel, by decide +kernel⟩
  refine F.ok sc (fun vs H Q E h => ?_) (fun cdv A outer s H vs Q E hr h => ?_)
  · obtain ⟨_, _, _, _, rfl, _⟩ := h
    rfl
  obtain ⟨h, d, ds, n0, rfl, hh, k⟩ := h
  refine ⟨_, (pss_cons (ps_set (i := 1) sc.nd rfl (Or.inl rfl) (pe_op op_add pe_int (pc g_law_take hr (pa_cons (pv 0) (pa_cons pe_int pa_nil)))))
    (pss_cons (ps_set (i := 2) sc.nd rfl (Or.inr rfl) (pc g_law_labels hr (pa_cons (pv 0) (pa_cons (pv 1) pa_nil))))
    (pss_cons (ps_set (i := 3) sc.nd rfl (Or.inl rfl) (pe_callTy call_tuple_of (by rfl) B.tuple (by decide +kernel) (pa_cons (pe_lc (own := [("x", 5)]) (g := gName 5) (tt := tYes) rfl sc.nd (pi_range1 (by rfl) B.range (pa_cons (pe_op op_add pe_int (pc g_law_take hr (pa_cons (pv 0) (pa_cons pe_int pa_nil)))) pa_nil)) (blkOk_by (N := ["hand", "colours", "labels", "white", "black", "x", "y"]) (sc := defScope s_law_task) (by decide +kernel)) (fun _ _ _ _ _ => pg_name (i := 5) sc.nd rfl (Or.inl rfl)) (fun _ _ _ _ _ => pts_nil) (fun _ _ _ _ _ => (pc g_law_rows hr (pa_cons (pv 0) (pa_cons (pv 2) pa_nil))))) pa_nil)))
    (pss_cons (ps_set (i := 4) sc.nd rfl (Or.inl rfl) (pe_callTy call_tuple_of (by rfl) B.tuple (by decide +kernel) (pa_cons (pe_lc (own := [("y", 6)]) (g := gName 6) (tt := tYes) rfl sc.nd (pi_range1 (by rfl) B.range (pa_cons (pe_op op_add pe_int (pc g_law_take hr (pa_cons (pv 0) (pa_cons pe_int pa_nil)))) pa_nil)) (blkOk_by (N := ["hand", "colours", "labels", "white", "black", "x", "y"]) (sc := defScope s_law_task) (by decide +kernel)) (fun _ _ _ _ _ => pg_name (i := 6) sc.nd rfl (Or.inl rfl)) (fun _ _ _ _ _ => pts_nil) (fun _ _ _ _ _ => (pc g_law_rows hr (pa_cons (pv 0) (pa_cons (pv 2) pa_nil))))) pa_nil)))
    (pss_one (ps_ret (pe_tup (pa_cons pe_str (pa_cons (pv 1) (pa_cons (pv 2) (pa_cons (pv 3) (pa_cons (pv 4) pa_nil)))))))))))), ?_⟩
  refine ⟨_, rfl, h, d, ds, n0, 3, rfl, hh.1, hh.2, by omega, by omega, fun c c0 c3 => ⟨_, _, rfl, rfl, ?_⟩⟩
  refine ⟨_, rfl, _, rfl, h, d, ds, _, _, rfl, hh.next, by omega, by omega, fun la H1 n1 ls g1 hh1 hla lok => ?_⟩
  have l24 : 2 ≤ ls.length ∧ ls.length ≤ 4 := by have := lok.1; omega
  -- one side
  refine ⟨_, rfl, h, d, ds, n1, 4, rfl, hh1.1, hh1.2, by omega, by omega, fun x x0 x4 => ⟨_, _, rfl, rfl, 1 + x, rfl, by omega, by omega, fun p hp => ?_⟩⟩
  have hh2 := hh1.next
  obtain ⟨nph, npd⟩ := hand_out hh2 hp
  refine itr_walk (lo := 0) (n := (1 + x).toNat) (fun i H3 => ∃ (n3 : Nat) (W : List (List (List Int))), Hand H3 h d ds n3 ∧ AccR (· = h) K _ p W H3 ∧ W.length = i ∧ ∀ rows ∈ W, Good ls rows) ⟨_, [], hh2.new hp _, AccR.start hp, rfl, fun m hm => absurd hm List.not_mem_nil⟩ ?_ ?_
  · rintro i H3 hi ⟨n3, W, hh3, b, len, ok⟩
    refine ⟨rfl, ?_⟩
    refine ⟨_, rfl, _, rfl, h, d, ds, n3, la, ls, rfl, hh3, b.go.seqT (hh1.go.seqT hla), by omega, l24.2, lok.2.1, fun v H4 n4 rows g4 hh4 dv gd => ?_⟩
    obtain ⟨acc, e, el, b2⟩ := (b.step nph g4).push dv
    refine ⟨acc, e, lt_small ?_, n4, W ++ [rows], hh4.off nph npd _, ?_, ?_, fun r hr => ?_⟩
    · rw [el]
      omega
    · exact b2
    · rw [List.length_append, len]
      rfl
    · rcases List.mem_append.mp hr with hr | hr
      · exact ok r hr
      · rw [List.mem_singleton.mp hr]
        exact gd
  rintro H3 ⟨n3, W, hh3, b, len, okW⟩
  obtain ⟨acc, eacc, dacc⟩ := b.ex
  refine ⟨p, _, rfl, .inl ⟨SqL.of eacc, fun tw htw => ?_⟩⟩
  have sw := same_new htw (.tup acc)
  have hh4 := hh3.same sw
  have gW : GoodS ls W := ⟨by omega, by omega, okW⟩
  have g4 := (g1.trans hh1.go).trans (b.go.trans (Same.go sw))
  have dW : SideV K (upd H3 tw (.tup acc)) (.ref tw) W := ⟨tw, acc, rfl, SqT.of upd_same, dacc.stay sw.tups⟩
  have hla4 := (hh1.go.trans (b.go.trans (Same.go sw))).seqT hla
  -- the other
  refine ⟨_, rfl, h, d, ds, n3, 4, rfl, hh4.1, hh4.2, by omega, by omega, fun y y0 y4 => ⟨_, _, rfl, rfl, 1 + y, rfl, by omega, by omega, fun p2 hp2 => ?_⟩⟩
  have hh5 := hh4.next
  obtain ⟨nph2, npd2⟩ := hand_out hh5 hp2
  refine itr_walk (lo := 0) (n := (1 + y).toNat) (fun i H6 => ∃ (n6 : Nat) (W : List (List (List Int))), Hand H6 h d ds n6 ∧ AccR (· = h) K _ p2 W H6 ∧ W.length = i ∧ ∀ rows ∈ W, Good ls rows) ⟨_, [], hh5.new hp2 _, AccR.start hp2, rfl, fun m hm => absurd hm List.not_mem_nil⟩ ?_ ?_
  · rintro i H6 hi ⟨n6, W2, hh6, b6, len6, ok6⟩
    refine ⟨rfl, ?_⟩
    refine ⟨_, rfl, _, rfl, h, d, ds, n6, la, ls, rfl, hh6, b6.go.seqT (hh4.go.seqT hla4), by omega, l24.2, lok.2.1, fun v H7 n7 rows g7 hh7 dv gd => ?_⟩
    obtain ⟨acc2, e2, el2, b7⟩ := (b6.step nph2 g7).push dv
    refine ⟨acc2, e2, lt_small ?_, n7, W2 ++ [rows], hh7.off nph2 npd2 _, ?_, ?_, fun r hr => ?_⟩
    · rw [el2]
      omega
    · exact b7
    · rw [List.length_append, len6]
      rfl
    · rcases List.mem_append.mp hr with hr | hr
      · exact ok6 r hr
      · rw [List.mem_singleton.mp hr]
        exact gd
  rintro H6 ⟨n6, W2, hh6, b6, len6, ok6⟩
  obtain ⟨acc2, eacc2, dacc2⟩ := b6.ex
  refine ⟨p2, _, rfl, .inl ⟨SqL.of eacc2, fun tb htb => ?_⟩⟩
  have sb := same_new htb (.tup acc2)
  have hh7 := hh6.same sb
  have dB : SideV K (upd H6 tb (.tup acc2)) (.ref tb) W2 := ⟨tb, acc2, rfl, SqT.of upd_same, dacc2.stay sb.tups⟩
  have g67 := hh4.go.trans (b6.go.trans (Same.go sb))
  refine ⟨_, rfl, _, rfl, _, rfl, _, rfl, (by show 5 ≤ sizeLine; decide), fun a ha => ?_⟩
  have sa := same_new ha (.tup [.str "task", .int (2 + c), .ref la, .ref tw, .ref tb])
  have gz := g67.trans (Same.go sa)
  exact k a _ n6 (2 + c) ls W W2 ((hh.go.trans g4).trans gz) (hh7.same sa) (by omega) (by omega) lok gW ⟨by omega, by omega, ok6⟩
    ⟨a, la, .ref tw, .ref tb, rfl, SqT.of upd_same, gz.seqT hla4, dW.stay gz.tups, dB.stay sa.tups⟩
end
section
variable {P : Program} {w : World} {K : PySem.W.Frag} {mg : Str → Option Value} {base : Heap}
theorem sized_dict0 : Sized 4 4 (.dict []) := ⟨by simp only [PyData.leavesShort, PyData.leavesShortKv], by simp only [PyData.showable, PyData.showableKv], by simp only [PyData.depth, PyData.depthKv]; omega, by simp only [PyData.bulk, PyData.bulkKv]; omega⟩
theorem le_sz {n : Nat} (h : n ≤ 100000) : n ≤ sizeLine := Nat.le_of_lt (lt_small h)
theorem sized_one {m h : Nat} {a : PyData} (s : Sized m h a) : Sized (m + 1) (h + 1) (.tuple [a]) := by
  exact (sized_tup (m := m) (h := h) (ds := [a]) fun d hd => by rw [List.mem_singleton.mp hd]; exact s).more (by simp) (Nat.le_refl _)
theorem sized_oneL {m h : Nat} {a : PyData} (s : Sized m h a) : Sized (m + 1) (h + 1) (.list [a]) := by
  exact (sized_lst (m := m) (h := h) (ds := [a]) fun d hd => by rw [List.mem_singleton.mp hd]; exact s).more (by simp) (Nat.le_refl _)
theorem sized_tup0 : Sized 0 1 (.tuple []) := (sized_tup (m := 0) (h := 0) (ds := []) (by simp)).more (by simp) (by omega)
theorem sized_lst0 : Sized 0 1 (.list []) := (sized_lst (m := 0) (h := 0) (ds := []) (by simp)).more (by simp) (by omega)
theorem sized_dict01 : Sized 10 4 (.dict [(.int 0, .int 1)]) := ⟨by simp only [PyData.leavesShort, PyData.leavesShortKv]; decide +kernel, by simp only [PyData.showable, PyData.showableKv]; decide +kernel, by simp only [PyData.depth, PyData.depthKv]; omega, by simp only [PyData.bulk, PyData.bulkKv]; omega⟩
theorem dn_dict0 {M : Addr → Prop} {H : Hp} {a : Addr} (n : ¬ M a) (e : H a = some (.dK [])) : Dn M K H (.ref a) (.dict []) := Dn.dct (kvs := []) (ds := []) n e .nil
theorem small_int (i : Int) (a : -1000 ≤ i) (b : i ≤ 1000) : Sized 0 0 (.int i) := sized_int (Nat.lt_of_lt_of_le (show i.natAbs < 2000 by omega) (by decide))
/-- fewer than five parts, or none -/
def NotFive (e : PyData) : Prop := ∀ r, e = .tuple r → r.length ≤ 4
def spOdd (K : PySem.W.Frag) : Sp := fun vs H Q _ => ∃ (h d : Addr) (ds : List Int) (n : Nat), vs = [.ref h] ∧ Hand H h d ds n ∧ ∀ (v : V) (H' : Hp) (n' : Nat) (e : PyData), Go (· = h) H H' → Hand H' h d ds n' → Dn (· = h) K H' v e → Sized 10 4 e → NotFive e → Q v H'
theorem ok_odd {f : Addr} {fd : FuncData} (B : Blt mg) (g_law_take : Has P w K mg base CX0 1 "_law_take" ["hand", "many"] (spTake K)) (F : Fun K "_law_odd" "_law_odd" s_law_odd f fd) : FnOk P w K mg base CX0 2 f fd ["hand"] (spOdd K) := by
  have sc : FnScope ["hand"] ["hand"] (defScope s_law_odd) := ⟨rfl, rfl, rfl, by decide +kernel, rfl, by decide +kernel, by decide +kernel⟩
  refine F.ok sc (fun vs H Q E h => ?_) (fun cdv A outer s H vs Q E hr h => ?_)
  · obtain ⟨_, _, _, _, rfl, _⟩ := h
    rfl
  obtain ⟨h, d, ds, n0, rfl, hh, k⟩ := h
  refine ⟨_, (pss_one (ps_ret (pe_ix ix_list (pe_lst (pa_cons pe_non (pa_cons pe_bl (pa_cons pe_bl (pa_cons pe_int (pa_cons (pe_un un_neg pe_int) (pa_cons pe_str (pa_cons pe_str (pa_cons (pe_tup pa_nil) (pa_cons (pe_lst pa_nil) (pa_cons pe_dnewK (pa_cons (pe_disp (pps_cons pe_int pe_int pps_nil) (by rfl) (by rfl) (fun z => by cases z) (by decide)) (pa_cons (pe_tup (pa_cons (pe_tup pa_nil) pa_nil)) (pa_cons (pe_lst (pa_cons (pe_lst pa_nil) pa_nil)) (pa_cons pe_str pa_nil))))))))))))))) (pc g_law_take hr (pa_cons (pv 0) (pa_cons pe_int pa_nil))) (fun _ _ => rfl)))), ?_⟩
  refine ⟨_, rfl, Nat.zero_le _, fun a1 ha1 => ⟨Nat.zero_le _, fun a2 ha2 => ?_⟩⟩
  have t1 := same_new ha1 (.tup [])
  have b1 := hh.same t1
  have n2 : ¬ a2 = h := (ne_of_none b1.1 ha2).symm
  have t2 := same_new ha2 (.lst [])
  have b2 := b1.same t2
  intro a3 ha3
  have n3 : ¬ a3 = h := (ne_of_none b2.1 ha3).symm
  have t3 := same_new ha3 (.dK [])
  have b3 := b2.same t3
  intro a4 ha4
  have n4 : ¬ a4 = h := (ne_of_none b3.1 ha4).symm
  refine ⟨upd_same, [(.inl 0, .int 1)], rfl, (by show 1 ≤ 15; decide), ?_⟩
  have t4 := same_own (same_new ha4 (.dK [])) ha4 (.dK (mergeK [] [(Sum.inl 0, V.int 1)]))
  have b4 := b3.same t4
  have c4 := upd_same (H := upd (upd (upd (upd H a1 (.tup [])) a2 (.lst [])) a3 (.dK [])) a4 (.dK [])) (a := a4) (o := .dK (mergeK [] [(Sum.inl 0, V.int 1)]))
  refine ⟨Nat.zero_le _, fun a5 ha5 => ⟨(by show 1 ≤ sizeLine; decide), fun a6 ha6 => ?_⟩⟩
  have t5 := same_new ha5 (.tup [])
  have t6 := same_new ha6 (.tup [.ref a5])
  refine ⟨Nat.zero_le _, fun a7 ha7 => ⟨(by show 1 ≤ sizeLine; decide), fun a8 ha8 => ?_⟩⟩
  have b6 := b4.same (t5.trans t6)
  have n7 : ¬ a7 = h := (ne_of_none b6.1 ha7).symm
  have t7 := same_new ha7 (.lst [])
  have n8 : ¬ a8 = h := (ne_of_none (b6.same t7).1 ha8).symm
  have t8 := same_new ha8 (.lst [.ref a7])
  have b8 := (b6.same t7).same t8
  refine ⟨(by show 14 ≤ sizeLine; decide), fun L hL => ?_⟩
  have nL : ¬ L = h := (ne_of_none b8.1 hL).symm
  have t9 := same_new hL (.lst [.non, .bl true, .bl false, .int 5, .int (-1), .str "task", .str "", .ref a1, .ref a2, .ref a3, .ref a4, .ref a6, .ref a8, .str "2"])
  have z8 := t8.trans t9
  have z7 := t7.trans z8
  have z6 := t6.trans z7
  have z5 := t5.trans z6
  have z4 := t4.trans z5
  have z3 := t3.trans z4
  have z2 := t2.trans z3
  have all := t1.trans z2
  have hh3 := hh.same all
  have row : DnAll (· = h) K _ [.non, .bl true, .bl false, .int 5, .int (-1), .str "task", .str "", .ref a1, .ref a2, .ref a3, .ref a4, .ref a6, .ref a8, .str "2"]
      [.none, .bool true, .bool false, .int 5, .int (-1), .str "task", .str "", .tuple [], .list [], .dict [], .dict [(.int 0, .int 1)], .tuple [.tuple []], .list [.list []], .str "2"] :=
    .cons .non (.cons (.bl _) (.cons (.bl _) (.cons (.int _) (.cons (.int _) (.cons (.str _) (.cons (.str _) (.cons (.tup (z2.seqT (SqT.of upd_same)) .nil) (.cons (.lst n2 (z3 _ _ upd_same) .nil)
      (.cons (dn_dict0 (M := (· = h)) n3 (z4 _ _ upd_same)) (.cons (Dn.dct (kvs := [(Sum.inl 0, V.int 1)]) (ds := [.int 1]) n4 (z5 _ _ c4) (.cons (.int 1) .nil)) (.cons (.tup (z7.seqT (SqT.of upd_same)) (.cons (.tup (z6.seqT (SqT.of upd_same)) .nil) .nil))
      (.cons (.lst n8 (t9 _ _ upd_same) (.cons (.lst n7 (z8 _ _ upd_same) .nil) .nil)) (.cons (.str _) .nil)))))))))))))
  refine ⟨_, rfl, h, d, ds, _, 14, rfl, hh3.1, hh3.2, by omega, by omega, fun q q0 q1 => ?_⟩
  obtain ⟨y, e', hy, hm, hyd⟩ := (row.stay hh3.go).pick (i := q) (by show -((14 : Nat) : Int) ≤ q; omega) (by show q < ((14 : Nat) : Int); omega)
  refine ⟨L, _, _, y, rfl, rfl, SqL.of (by rw [upd_ne nL, upd_same]), hy, ?_⟩
  refine k y _ _ e' (all.go.trans hh3.go) hh3.next hyd ?_ ?_
  · simp only [List.mem_cons, List.not_mem_nil, or_false] at hm
    rcases hm with rfl | rfl | rfl | rfl | rfl | rfl | rfl | rfl | rfl | rfl | rfl | rfl | rfl | rfl
    · exact sized_non.more (by decide) (by decide)
    · exact (sized_bl _).more (by decide) (by decide)
    · exact (sized_bl _).more (by decide) (by decide)
    · exact (small_int 5 (by decide) (by decide)).more (by decide) (by decide)
    · exact (small_int (-1) (by decide) (by decide)).more (by decide) (by decide)
    · exact (sized_str "task" (by decide +kernel) 4 (by decide +kernel)).more (by decide) (by decide)
    · exact (sized_str "" (by decide +kernel) 4 (by decide +kernel)).more (by decide) (by decide)
    · exact sized_tup0.more (by decide) (by decide)
    · exact sized_lst0.more (by decide) (by decide)
    · exact sized_dict0.more (by decide) (by decide)
    · exact sized_dict01
    · exact (sized_one sized_tup0).more (by decide) (by decide)
    · exact (sized_oneL sized_lst0).more (by decide) (by decide)
    · exact (sized_str "2" (by decide +kernel) 4 (by decide +kernel)).more (by decide) (by decide)
  · intro r er
    subst er
    simp only [List.mem_cons, List.not_mem_nil, or_false] at hm
    rcases hm with hm | hm | hm | hm | hm | hm | hm | hm | hm | hm | hm | hm | hm | hm <;> cases hm <;> decide
end
section
variable {P : Program} {w : World} {K : PySem.W.Frag} {mg : Str → Option Value} {base : Heap}
theorem task_at {H : Hp} {x : V} {D : Int} {ls : List Int} {W B : List (List (List Int))} (h : Dt K H x (taskD D ls W B)) : ∃ a la wa ba wxs bxs, x = .ref a ∧ SqT K H a [.str "task", .int D, .ref la, .ref wa, .ref ba] ∧ SqT K H la (ls.map V.int) ∧
    SqT K H wa wxs ∧ DtAll K H wxs (W.map fun rows => PyData.tuple (rows.map tupI)) ∧ SqT K H ba bxs ∧ DtAll K H bxs (B.map fun rows => PyData.tuple (rows.map tupI)) := by
  cases h with
  | tup ha hx =>
  cases hx with
  | cons h0 hx =>
  cases h0
  cases hx with
  | cons h1 hx =>
  cases h1
  cases hx with
  | cons h2 hx =>
  cases hx with
  | cons h3 hx =>
  cases hx with
  | cons h4 hx =>
  cases hx
  cases h2 with
  | tup hla hlx =>
  cases h3 with
  | tup hwa hwx =>
  cases h4 with
  | tup hba hbx =>
  rw [ints_of hlx] at hla
  exact ⟨_, _, _, _, _, _, rfl, ha, hla, hwa, hwx, hba, hbx⟩
theorem at_sideT {H : Hp} {xs : List V} {W : List (List (List Int))} {i : Nat} (h : DtAll K H xs (W.map fun rows => PyData.tuple (rows.map tupI))) (hi : i < W.length) : ∃ v, xs[i]? = some v ∧ Dt K H v (.tuple ((W.getD i []).map tupI)) := by
  obtain ⟨v, hv, hd⟩ := h.at (show (W.map fun rows => PyData.tuple (rows.map tupI))[i]? = some (.tuple ((W.getD i []).map tupI)) by simp [List.getD, hi])
  exact ⟨v, hv, hd⟩
theorem good_at {ls : List Int} {W : List (List (List Int))} (g : GoodS ls W) {i : Nat} (hi : i < W.length) : Good ls (W.getD i []) := by
  have : W.getD i [] = W[i] := by simp [List.getD, hi]
  rw [this]
  exact g.2.2 _ (List.getElem_mem hi)
theorem lab_ok {D : Int} {ls : List Int} (D2 : 2 ≤ D) (D4 : D ≤ 4) (l : LabOk D ls) : areLabels (.int D) (tupI ls) = true := by
  obtain ⟨l1, l2, l3⟩ := l
  have hn : isNum (.int D) 2 4 = true := by
    show (decide (2 ≤ D) && decide (D ≤ 4)) = true
    rw [decide_eq_true D2, decide_eq_true D4]
    rfl
  have e := labels_tup (ms := ls.map PyData.int) hn
  show areLabels (.int D) (.tuple (ls.map PyData.int)) = true
  rw [e, decide_eq_true (by rw [List.length_map]; exact l1), decide_eq_true l3, Bool.true_and, Bool.and_true, List.all_eq_true]
  intro x hx
  obtain ⟨m, hm, rfl⟩ := List.mem_map.mp hx
  obtain ⟨a, b⟩ := l2 m hm
  show (decide (1 ≤ m) && decide (m ≤ 60)) = true
  rw [decide_eq_true a, decide_eq_true b]
  rfl
theorem side_ok {ls : List Int} {W : List (List (List Int))} (g : GoodS ls W) : areInputs ls (sideD W) = true := by
  obtain ⟨w1, w4, ok⟩ := g
  show (isNum (.int ((W.map fun rows => PyData.tuple (rows.map tupI)).length : Nat)) 1 4 && (W.map fun rows => PyData.tuple (rows.map tupI)).all (areRows ls)) = true
  rw [List.length_map]
  have hn : isNum (.int (W.length : Nat)) 1 4 = true := by
    show (decide ((1 : Int) ≤ (W.length : Nat)) && decide (((W.length : Nat) : Int) ≤ 4)) = true
    rw [decide_eq_true (by omega), decide_eq_true (by omega)]
    rfl
  rw [hn, Bool.true_and, List.all_eq_true]
  intro x hx
  obtain ⟨rows, hr, rfl⟩ := List.mem_map.mp hx
  exact good_rows (ok rows hr)
theorem task_ok {D : Int} {ls : List Int} {W B : List (List (List Int))} (D2 : 2 ≤ D) (D4 : D ≤ 4) (l : LabOk D ls) (gW : GoodS ls W) (gB : GoodS ls B) : isTask (taskD D ls W B) = true := by
  show (isWord (.str "task") && (areLabels (.int D) (tupI ls) && (areInputs (intsD (tupI ls)) (sideD W) && areInputs (intsD (tupI ls)) (sideD B)))) = true
  rw [intsD_t, lab_ok D2 D4 l, side_ok gW, side_ok gB]
  rfl
theorem task_word (D : Int) (ls : List Int) (W B : List (List (List Int))) : WordOk (taskD D ls W B) := fun w r e _ => by
  cases e
  decide +kernel
theorem row_small {ls r : List Int} (lok : ∀ m ∈ ls, 1 ≤ m ∧ m ≤ 60) (h : isRow ls (tupI r) = true) : ∀ x ∈ r, 0 ≤ x ∧ x ≤ 59 := by
  have h' : (decide ((r.map PyData.int).length = ls.length) && ((r.map PyData.int).zip ls).all fun p => isNum p.1 0 (p.2 - 1)) = true := h
  rw [Bool.and_eq_true, decide_eq_true_eq, List.length_map] at h'
  obtain ⟨e, a⟩ := h'
  clear h
  induction r generalizing ls with
  | nil => exact fun x hx => absurd hx List.not_mem_nil
  | cons y r ih =>
    cases ls with
    | nil => cases e
    | cons l ls =>
      rw [List.map_cons, List.zip_cons_cons, List.all_cons, Bool.and_eq_true] at a
      intro x hx
      rcases List.mem_cons.mp hx with rfl | hx
      · obtain ⟨_, a1, a2⟩ := num_of a.1
        have := lok l List.mem_cons_self
        have e1 : numD (.int x) = x := rfl
        rw [e1] at a1 a2
        show 0 ≤ x ∧ x ≤ 59
        have a2' : x ≤ l - 1 := a2
        omega
      · exact ih (fun m hm => lok m (List.mem_cons_of_mem _ hm)) (by simpa using e) a.2 x hx
theorem task_parts_sized {D : Int} {ls : List Int} {W B : List (List (List Int))} (d0 : -10 ≤ D) (d1 : D ≤ 10) (lok : ∀ m ∈ ls, 1 ≤ m ∧ m ≤ 60) (l4 : ls.length ≤ 4) (gW : GoodS ls W) (gB : GoodS ls B) : Sized 104 3 (.str "task") ∧ Sized 104 3 (.int D) ∧ Sized 104 3 (tupI ls) ∧ Sized 104 3 (sideD W) ∧ Sized 104 3 (sideD B) := by
  have sI : ∀ i : Int, -100 ≤ i → i ≤ 100 → Sized 0 0 (.int i) := fun i q1 q2 => sized_int (Nat.lt_of_lt_of_le (show i.natAbs < 200 by omega) (by decide))
  have rowS : ∀ r : List Int, r.length ≤ 4 → (∀ x ∈ r, -100 ≤ x ∧ x ≤ 100) → Sized 4 1 (tupI r) := fun r l a => by
    refine (sized_tup (m := 0) (h := 0) fun z hz => ?_).more (by rw [List.length_map]; omega) (Nat.le_refl _)
    obtain ⟨i, hi, rfl⟩ := List.mem_map.mp hz
    exact sI i (a i hi).1 (a i hi).2
  have sideS : ∀ S : List (List (List Int)), GoodS ls S → Sized 104 3 (sideD S) := fun S g => by
    refine (sized_tup (m := 25) (h := 2) fun z hz => ?_).more (by rw [List.length_map]; have := g.2.1; omega) (Nat.le_refl _)
    obtain ⟨rows, hr, rfl⟩ := List.mem_map.mp hz
    obtain ⟨n5, ok, _⟩ := g.2.2 rows hr
    refine (sized_tup (m := 4) (h := 1) fun z hz => ?_).more (by rw [List.length_map]; omega) (Nat.le_refl _)
    obtain ⟨r, hr, rfl⟩ := List.mem_map.mp hz
    refine rowS r (by rw [row_len (ok r hr)]; exact l4) fun x hx => ?_
    have := row_small lok (ok r hr) x hx
    omega
  exact ⟨(sized_str "task" (by decide) 4 (by decide)).more (by decide) (by decide), (sI D (by omega) (by omega)).more (by decide) (by decide), (rowS ls l4 fun x hx => by have := lok x hx; omega).more (by decide) (by decide), sideS W gW, sideS B gB⟩
theorem task_sized {D : Int} {ls : List Int} {W B : List (List (List Int))} (d0 : -10 ≤ D) (d1 : D ≤ 10) (lok : ∀ m ∈ ls, 1 ≤ m ∧ m ≤ 60) (l4 : ls.length ≤ 4) (gW : GoodS ls W) (gB : GoodS ls B) : Sized 525 4 (taskD D ls W B) := by
  obtain ⟨a, b, c, e, f⟩ := task_parts_sized d0 d1 lok l4 gW gB
  refine sized_tup (m := 104) (h := 3) fun z hz => ?_
  simp only [List.mem_cons, List.not_mem_nil, or_false] at hz
  rcases hz with rfl | rfl | rfl | rfl | rfl <;> assumption
theorem task_dt {H : Hp} {p la wa ba : Addr} {wxs bxs : List V} {D : Int} {ls : List Int} {W B : List (List (List Int))} (hp : SqT K H p [.str "task", .int D, .ref la, .ref wa, .ref ba]) (hla : SqT K H la (ls.map V.int)) (hwa : SqT K H wa wxs) (hwx : DtAll K H wxs (W.map fun rows => PyData.tuple (rows.map tupI))) (hba : SqT K H ba bxs) (hbx : DtAll K H bxs (B.map fun rows => PyData.tuple (rows.map tupI))) : Dt K H (.ref p) (taskD D ls W B) :=
  .tup hp (.cons (.str _) (.cons (.int _) (.cons (.tup hla (DtAll.ints ls)) (.cons (.tup hwa hwx) (.cons (.tup hba hbx) .nil)))))
end
section
variable {P : Program} {w : World} {K : PySem.W.Frag} {mg : Str → Option Value} {base : Heap}
def spLabC (K : PySem.W.Frag) : Sp := fun vs H Q _ => ∃ (h d : Addr) (ds : List Int) (n : Nat) (x : V) (D : Int) (ls : List Int) (W B : List (List (List Int))), vs = [.ref h, x] ∧ Hand H h d ds n ∧ Dt K H x (taskD D ls W B) ∧ 1 ≤ ls.length ∧ ls.length ≤ 4 ∧ (∀ m ∈ ls, 1 ≤ m ∧ m ≤ 60) ∧
  ∀ (v : V) (H' : Hp) (n' : Nat) (e : PyData), Go (· = h) H H' → Hand H' h d ds n' → Dn (· = h) K H' v e → Sized 100 10 e → Q v H'
theorem cut_butlast {xs : List V} (h : 1 ≤ xs.length) : cutV xs none (some (-1)) = xs.take (xs.length - 1) := by
  have ne : xs ≠ [] := fun z => by rw [z] at h; simp at h
  have q := List.dropLast_concat_getLast ne
  have e := cut_last xs.dropLast (xs.getLast ne)
  rw [q] at e
  rw [e, List.dropLast_eq_take]
set_option maxHeartbeats 2000000 in
theorem ok_labelc {f : Addr} {fd : FuncData} (B : Blt mg) (g_law_take : Has P w K mg base CX0 1 "_law_take" ["hand", "many"] (spTake K)) (F : Fun K "_law_label_changes" "_law_label_changes" s_law_label_changes f fd) : FnOk P w K mg base CX0 2 f fd ["hand", "task"] (spLabC K) := by
  have sc : FnScope ["hand", "task", "labels", "at", "other", "shape"] ["hand", "task"] (defScope s_law_label_changes) := ⟨rfl, rfl, rfl, by decide +kernel, rfl, by decide +kernel, by decide +kernel⟩
  refine F.ok sc (fun vs H Q E h => ?_) (fun cdv A outer s H vs Q E hr h => ?_)
  · obtain ⟨_, _, _, _, _, _, _, _, _, rfl, _⟩ := h
    rfl
  obtain ⟨h, d, ds, n0, x, D, ls, W, Bl, rfl, hh, hT, l1, l4, lok, k⟩ := h
  refine ⟨_, (pss_cons (ps_set (i := 2) sc.nd rfl (Or.inl rfl) (pe_ix ix_tup (pv 1) pe_int (fun _ _ => rfl)))
    (pss_cons (ps_set (i := 3) sc.nd rfl (Or.inl rfl) (pc g_law_take hr (pa_cons (pv 0) (pa_cons (pe_callB call_len_seq (by rfl) B.len (by decide +kernel) (pa_cons (pv 2) pa_nil)) pa_nil))))
    (pss_cons (ps_set (i := 4) sc.nd rfl (Or.inl rfl) (pe_ix ix_list (pe_lst (pa_cons pe_int (pa_cons pe_int (pa_cons (pe_un un_neg pe_int) (pa_cons pe_bl (pa_cons pe_str (pa_cons pe_non (pa_cons (pe_tup (pa_cons pe_int pa_nil)) (pa_cons pe_int pa_nil))))))))) (pc g_law_take hr (pa_cons (pv 0) (pa_cons pe_int pa_nil))) (fun _ _ => rfl)))
    (pss_cons (ps_set (i := 5) sc.nd rfl (Or.inl rfl) (pc g_law_take hr (pa_cons (pv 0) (pa_cons pe_int pa_nil))))
    (pss_cons (ps_if (pt_cmpR op_eqi (pv 5) pe_int (nomark _))
      (pss_one (ps_ret (pe_callTy call_list_of (by rfl) B.list (by decide +kernel) (pa_cons (pv 2) pa_nil))))
      pss_nil)
    (pss_cons (ps_if (pt_cmpR op_eqi (pv 5) pe_int (nomark _))
      (pss_one (ps_ret (pe_slice sl_cut (pv 2) po_none (po_some (pe_un un_neg pe_int)))))
      pss_nil)
    (pss_cons (ps_if (pt_cmpR op_eqi (pv 5) pe_int (nomark _))
      (pss_one (ps_ret (pe_op op_plus (pv 2) (pe_tup (pa_cons pe_int pa_nil)))))
      pss_nil)
    (pss_cons (ps_if (pt_cmpR op_eqi (pv 5) pe_int (nomark _))
      (pss_one (ps_ret (pe_ix ix_list (pe_lst (pa_cons (pe_tup (pa_cons pe_int (pa_cons pe_int (pa_cons pe_int pa_nil)))) (pa_cons (pe_tup (pa_cons pe_int (pa_cons pe_int (pa_cons pe_int pa_nil)))) (pa_cons (pe_tup (pa_cons pe_int (pa_cons pe_int (pa_cons pe_int (pa_cons pe_int pa_nil))))) (pa_cons (pe_tup (pa_cons pe_int (pa_cons pe_int pa_nil))) (pa_cons (pe_tup (pa_cons pe_int (pa_cons pe_int (pa_cons pe_int pa_nil)))) pa_nil)))))) (pc g_law_take hr (pa_cons (pv 0) (pa_cons pe_int pa_nil))) (fun _ _ => rfl))))
      pss_nil)
    (pss_one (ps_ret (pe_op op_plus (pe_op op_plus (pe_slice sl_cut (pv 2) po_none (po_some (pv 3))) (pe_tup (pa_cons (pv 4) pa_nil))) (pe_slice sl_cut (pv 2) (po_some (pe_op op_add (pv 3) pe_int)) po_none)))))))))))), ?_⟩
  obtain ⟨ta, la, wa, ba, wxs, bxs, rfl, hta, hla, _⟩ := task_at hT
  have ll : (ls.map V.int).length = ls.length := List.length_map _
  refine ⟨_, rfl, ta, _, _, _, rfl, rfl, hta, at_of (j := 2) rfl rfl, ?_⟩
  refine ⟨_, rfl, _, rfl, la, _, rfl, .inr hla, h, d, ds, n0, _, rfl, hh.1, hh.2, by omega, by omega, fun a a0 a1 => ?_⟩
  have hh1 := hh.next
  have g1 := hh.go
  have hla1 := hh.tups.seq hla
  rw [ll] at a1
  have an : a = ((a.toNat : Nat) : Int) := by omega
  -- other
  refine ⟨_, rfl, (by show 1 ≤ sizeLine; decide), fun t ht => ⟨(by show 8 ≤ sizeLine; decide), fun L hL => ?_⟩⟩
  have t1 := same_new ht (.tup [.int 2])
  have t2 := same_new hL (.lst [.int 0, .int 61, .int (-1), .bl true, .str "2", .non, .ref t, .int 60])
  have b2 := (hh1.same t1).same t2
  have nL : ¬ L = h := (ne_of_none (hh1.same t1).1 hL).symm
  have row : DtAll K _ [.int 0, .int 61, .int (-1), .bl true, .str "2", .non, .ref t, .int 60] [.int 0, .int 61, .int (-1), .bool true, .str "2", .none, .tuple [.int 2], .int 60] :=
    .cons (.int _) (.cons (.int _) (.cons (.int _) (.cons (.bl _) (.cons (.str _) (.cons .non (.cons (.tup (t2.seqT (SqT.of upd_same)) (.cons (.int 2) .nil)) (.cons (.int _) .nil)))))))
  refine ⟨_, rfl, h, d, ds, _, 8, rfl, b2.1, b2.2, by omega, by omega, fun q q0 q1 => ?_⟩
  have row2 := row.stay b2.tups
  obtain ⟨e', he', hm⟩ : ∃ e', [PyData.int 0, .int 61, .int (-1), .bool true, .str "2", .none, .tuple [.int 2], .int 60][q.toNat]? = some e' ∧ Sized 10 2 e' := by
    have lt : q.toNat < [PyData.int 0, .int 61, .int (-1), .bool true, .str "2", .none, .tuple [.int 2], .int 60].length := by show q.toNat < 8; omega
    refine ⟨_, List.getElem?_eq_getElem lt, ?_⟩
    have hm := List.getElem_mem lt
    generalize [PyData.int 0, .int 61, .int (-1), .bool true, .str "2", .none, .tuple [.int 2], .int 60][q.toNat] = e' at hm
    simp only [List.mem_cons, List.not_mem_nil, or_false] at hm
    rcases hm with rfl | rfl | rfl | rfl | rfl | rfl | rfl | rfl
    · exact (small_int _ (by decide) (by decide)).more (by decide) (by decide)
    · exact (small_int _ (by decide) (by decide)).more (by decide) (by decide)
    · exact (small_int _ (by decide) (by decide)).more (by decide) (by decide)
    · exact (sized_bl _).more (by decide) (by decide)
    · exact (sized_str "2" (by decide +kernel) 4 (by decide +kernel)).more (by decide) (by decide)
    · exact sized_non.more (by decide) (by decide)
    · exact (sized_one (small_int 2 (by decide) (by decide))).more (by decide) (by decide)
    · exact (small_int _ (by decide) (by decide)).more (by decide) (by decide)
  obtain ⟨y, hy, hyd⟩ := row2.at he'
  refine ⟨L, _, _, y, rfl, rfl, SqL.of (by rw [upd_ne nL, upd_same]), at_of (j := q.toNat) (by omega) hy, ?_⟩
  have hh3 := b2.next
  have g3 := (g1.trans (t1.trans t2).go).trans b2.go
  have hla3 := b2.tups.seq ((t1.trans t2).seqT hla1)
  -- shape
  refine ⟨_, rfl, h, d, ds, _, 6, rfl, hh3.1, hh3.2, by omega, by omega, fun sh sh0 sh1 => ?_⟩
  have hh4 := hh3.next
  have g4 := g3.trans hh3.go
  have hla4 := hh3.tups.seq hla3
  have hyd4 := hyd.stay hh3.tups
  have sR : ∀ z ∈ ls.map PyData.int, Sized 10 2 z := fun z hz => by
    obtain ⟨i, hi, rfl⟩ := List.mem_map.mp hz
    have := lok i hi
    exact (small_int i (by omega) (by omega)).more (by decide) (by decide)
  have fin : ∀ {H2 : Hp} {n2 : Nat} {p : Addr} {xs : List V} {zs : List PyData}, Go (· = h) H H2 → Hand H2 h d ds n2 → SqT K H2 p xs → DtAll K H2 xs zs → zs.length ≤ 9 → (∀ z ∈ zs, Sized 10 2 z) → Q (.ref p) H2 := fun {H2 n2 p xs zs} g hk st da lz all =>
    k _ _ n2 (.tuple zs) g hk (.tup st da.dn) ((sized_tup all).more (Nat.le_trans (Nat.mul_le_mul_right _ lz) (by decide)) (by decide))
  refine ⟨_, rfl, _, _, rfl, rfl, _, rfl, ?_⟩
  refine ite2 (fun _ => ?_) (fun _ => ?_)
  · refine ⟨_, rfl, la, _, rfl, .inr hla4, fun l hl => ?_⟩
    have t1 := same_new hl (.lst (ls.map V.int))
    have nl : ¬ l = h := (ne_of_none hh4.1 hl).symm
    exact k _ _ _ (.list (ls.map PyData.int)) (g4.trans t1.go) (hh4.same t1) (.lst nl upd_same (DtAll.ints ls).dn) ((sized_lst sR).more (Nat.le_trans (Nat.mul_le_mul_right _ (show (ls.map PyData.int).length ≤ 9 by rw [List.length_map]; omega)) (by decide)) (by decide))
  refine ⟨_, rfl, _, _, rfl, rfl, _, rfl, ?_⟩
  refine ite2 (fun _ => ?_) (fun _ => ?_)
  · refine ⟨_, rfl, _, rfl, _, rfl, la, _, rfl, hla4, fun u1 H5 s5 hu1 => ?_⟩
    rw [cut_butlast (by omega)] at hu1
    exact fin (g4.trans s5.go) (hh4.same s5) hu1 ((DtAll.ints ls).take _) (by rw [List.length_take, List.length_map]; omega) (fun z hz => sR z (List.mem_of_mem_take hz))
  refine ⟨_, rfl, _, _, rfl, rfl, _, rfl, ?_⟩
  refine ite2 (fun _ => ?_) (fun _ => ?_)
  · refine ⟨_, rfl, (by show 1 ≤ sizeLine; decide), fun t1 ht1 => ?_⟩
    have a1 := same_new ht1 (.tup [.int 2])
    refine ⟨la, t1, _, _, rfl, rfl, a1.seqT hla4, SqT.of upd_same, le_sz (by rw [List.length_map]; show _ + 1 ≤ _; omega), fun u2 H5 s5 hu2 => ?_⟩
    exact fin (zs := ls.map PyData.int ++ [.int 2]) (g4.trans (a1.trans s5).go) (hh4.same (a1.trans s5)) hu2 ((DtAll.ints ls).app (.cons (.int 2) .nil)) (by rw [List.length_append, List.length_map]; show _ + 1 ≤ _; omega) (fun z hz => by
      rcases List.mem_append.mp hz with hz | hz
      · exact sR z hz
      · rw [List.mem_singleton.mp hz]
        exact (small_int 2 (by decide) (by decide)).more (by decide) (by decide))
  refine ⟨_, rfl, _, _, rfl, rfl, _, rfl, ?_⟩
  refine ite2 (fun _ => ?_) (fun _ => ?_)
  · refine ⟨(by show 3 ≤ sizeLine; decide), fun a1 ha1 => ⟨(by show 3 ≤ sizeLine; decide), fun a2 ha2 => ⟨(by show 4 ≤ sizeLine; decide), fun a3 ha3 => ⟨(by show 2 ≤ sizeLine; decide), fun a4 ha4 => ⟨(by show 3 ≤ sizeLine; decide), fun a5 ha5 => ⟨(by show 5 ≤ sizeLine; decide), fun l hl => ?_⟩⟩⟩⟩⟩⟩
    have t1 := same_new ha1 (.tup ([16, 16, 16].map V.int))
    have t2 := same_new ha2 (.tup ([20, 20, 11].map V.int))
    have t3 := same_new ha3 (.tup ([8, 8, 8, 8].map V.int))
    have t4 := same_new ha4 (.tup ([60, 67].map V.int))
    have t5 := same_new ha5 (.tup ([10, 10, 41].map V.int))
    have t6 := same_new hl (.lst [.ref a1, .ref a2, .ref a3, .ref a4, .ref a5])
    have z5 := t5.trans t6
    have z4 := t4.trans z5
    have z3 := t3.trans z4
    have z2 := t2.trans z3
    have z1 := t1.trans z2
    have b := hh4.same z1
    have nl : ¬ l = h := (ne_of_none (hh4.same ((t1.trans (t2.trans t3)).trans (t4.trans t5))).1 hl).symm
    refine ⟨_, rfl, h, d, ds, _, 5, rfl, b.1, b.2, by omega, by omega, fun q2 q20 q21 => ?_⟩
    have go : ∀ {j : Nat} {p : Addr} {ms : List Int}, q2 = (j : Int) → [V.ref a1, .ref a2, .ref a3, .ref a4, .ref a5][j]? = some (.ref p) → SqT K _ p (ms.map V.int) → (∀ m ∈ ms, 0 ≤ m ∧ m ≤ 100) → ms.length ≤ 9 → _ := fun {j p ms} eq ej st sm lm => (⟨l, _, _, .ref p, rfl, rfl, SqL.of (b.go.out l _ nl upd_same), at_of (j := j) eq ej, fin (g4.trans (z1.go.trans b.go)) b.next (b.tups.seq st) (DtAll.ints ms) (by rw [List.length_map]; exact lm) (fun z hz => by
        obtain ⟨i, hi, rfl⟩ := List.mem_map.mp hz
        have := sm i hi
        exact (small_int i (by omega) (by omega)).more (by decide) (by decide))⟩ : ∃ a xs i v, V.ref l = .ref a ∧ V.int q2 = .int i ∧ SqL K _ a xs ∧ atI xs i = some v ∧ Q v _)
    rcases (show q2 = 0 ∨ q2 = 1 ∨ q2 = 2 ∨ q2 = 3 ∨ q2 = 4 by omega) with rfl | rfl | rfl | rfl | rfl
    · exact go (j := 0) (ms := [16, 16, 16]) rfl rfl (z2.seqT (SqT.of upd_same)) (by decide) (by decide)
    · exact go (j := 1) (ms := [20, 20, 11]) rfl rfl (z3.seqT (SqT.of upd_same)) (by decide) (by decide)
    · exact go (j := 2) (ms := [8, 8, 8, 8]) rfl rfl (z4.seqT (SqT.of upd_same)) (by decide) (by decide)
    · exact go (j := 3) (ms := [60, 67]) rfl rfl (z5.seqT (SqT.of upd_same)) (by decide) (by decide)
    · exact go (j := 4) (ms := [10, 10, 41]) rfl rfl (t6.seqT (SqT.of upd_same)) (by decide) (by decide)
  · refine ⟨_, rfl, _, rfl, _, rfl, la, _, rfl, hla4, fun q4 H4 s4 hq4 => ?_⟩
    rw [an, cut_to] at hq4
    refine ⟨_, rfl, (by show 1 ≤ sizeLine; decide), fun t ht => ?_⟩
    have t1 := same_new ht (.tup [y])
    refine ⟨q4, t, _, _, rfl, rfl, t1.seqT hq4, SqT.of upd_same, le_sz (by rw [List.length_take, List.length_map]; show _ + 1 ≤ _; omega), fun q5 H5 s5 hq5 => ?_⟩
    refine ⟨_, rfl, _, rfl, _, _, rfl, rfl, _, rfl, la, _, rfl, (s4.trans (t1.trans s5)).seqT hla4, fun q6 H6 s6 hq6 => ?_⟩
    rw [show a + 1 = ((a.toNat + 1 : Nat) : Int) by omega, cut_from] at hq6
    refine ⟨q5, q6, _, _, rfl, rfl, s6.seqT hq5, hq6, le_sz (by rw [List.length_append, List.length_take, List.length_drop, List.length_map]; show _ + 1 + _ ≤ _; omega), fun q7 H7 s7 hq7 => ?_⟩
    have ts := (s4.trans (t1.trans s5)).trans (s6.trans s7)
    have yr := DtAll.ints (K := K) (H := H7) ls
    exact fin (zs := (ls.map PyData.int).take a.toNat ++ [e'] ++ (ls.map PyData.int).drop (a.toNat + 1)) (g4.trans ts.go) (hh4.same ts) hq7 (((yr.take _).app (.cons (hyd4.stay ts.tups) .nil)).app (yr.drop _)) (by rw [List.length_append, List.length_append, List.length_take, List.length_drop, List.length_map]; show _ + 1 + _ ≤ _; omega) (fun z hz => by
      rcases List.mem_append.mp hz with hz | hz
      · rcases List.mem_append.mp hz with hz | hz
        · exact sR z (List.mem_of_mem_take hz)
        · rw [List.mem_singleton.mp hz]
          exact hm
      · exact sR z (List.mem_of_mem_drop hz))
end
section
variable {P : Program} {w : World} {K : PySem.W.Frag} {mg : Str → Option Value} {base : Heap}
def spRowC (K : PySem.W.Frag) : Sp := fun vs H Q _ => ∃ (h d : Addr) (ds : List Int) (n : Nat) (ra la : Addr) (r ls : List Int), vs = [.ref h, .ref ra, .ref la] ∧ Hand H h d ds n ∧ Nd H ra ∧ SqT K H ra (r.map V.int) ∧ SqT K H la (ls.map V.int) ∧ r.length = ls.length ∧ 1 ≤ ls.length ∧ ls.length ≤ 4 ∧ (∀ m ∈ ls, 1 ≤ m ∧ m ≤ 60) ∧ (∀ m ∈ r, 0 ≤ m ∧ m ≤ 59) ∧
  ∀ (v : V) (H' : Hp) (n' : Nat) (e : PyData), Go (· = h) H H' → Hand H' h d ds n' → Dn (· = h) K H' v e → Sized 100 10 e → Q v H'
theorem first_at {r : List Int} {z : Int} (h : z ∈ r) : ∃ j : Nat, r[j]? = some z ∧ ∀ (m : Nat) (x : Int), m < j → r[m]? = some x → x ≠ z := by
  induction r with
  | nil => cases h
  | cons y r ih =>
    by_cases e : y = z
    · exact ⟨0, by rw [e]; rfl, fun m x hm => absurd hm (Nat.not_lt_zero m)⟩
    · rcases List.mem_cons.mp h with q | q
      · exact absurd q.symm e
      · obtain ⟨j, h1, h2⟩ := ih q
        refine ⟨j + 1, by simpa using h1, fun m x hm hx => ?_⟩
        cases m with
        | zero =>
          have : y = x := by simpa using hx
          rw [← this]
          exact e
        | succ m => exact h2 m x (by omega) (by simpa using hx)
theorem any_of (r : List Int) (z : Int) : (r.map V.int).any (fun y => eqV y (V.int z)) = decide (z ∈ r) := by
  rw [List.any_map]
  have e : ((fun y => eqV y (V.int z)) ∘ V.int) = fun a => decide (a = z) := by
    funext a
    show (a == z) = decide (a = z)
    rfl
  rw [e]
  induction r with
  | nil => simp
  | cons b r ih =>
    rw [List.any_cons, ih]
    by_cases q : b = z
    · simp [q]
    · have q' : ¬ z = b := fun x => q x.symm
      simp [q, q']
theorem in_of (r : List Int) (z : Int) : V.bl (if false = true then !inV (V.int z) (r.map V.int) else inV (V.int z) (r.map V.int)) = V.bl (decide (z ∈ r)) := by
  rw [if_neg Bool.false_ne_true, ← any_of]
  rfl
theorem flat_of (r : List Int) : (r.map V.int).all flatV = true := by
  rw [List.all_map]
  exact List.all_eq_true.mpr fun _ _ => rfl
theorem idx_of {r : List Int} {z : Int} (hz : z ∈ r) : ∃ j : Nat, j < r.length ∧ (r.map V.int)[j]? = some (.int z) ∧ ∀ (m : Nat) (z' : V), m < j → (r.map V.int)[m]? = some z' → eqV z' (.int z) = false := by
  obtain ⟨j, h1, h2⟩ := first_at hz
  refine ⟨j, (List.getElem?_eq_some_iff.mp h1).1, by rw [List.getElem?_map, h1]; rfl, fun m z' hm hz' => ?_⟩
  obtain ⟨x, hx, rfl⟩ := item_of hz'
  have := h2 m x hm hx
  show (x == z) = false
  exact beq_eq_false_iff_ne.mpr this
set_option maxHeartbeats 2000000 in
theorem ok_rowc {f : Addr} {fd : FuncData} (B : Blt mg) (g_law_take : Has P w K mg base CX0 1 "_law_take" ["hand", "many"] (spTake K)) (F : Fun K "_law_row_changes" "_law_row_changes" s_law_row_changes f fd) : FnOk P w K mg base CX0 2 f fd ["hand", "row", "labels"] (spRowC K) := by
  have sc : FnScope ["hand", "row", "labels", "at", "other", "shape"] ["hand", "row", "labels"] (defScope s_law_row_changes) := ⟨rfl, rfl, rfl, by decide +kernel, rfl, by decide +kernel, by decide +kernel⟩
  refine F.ok sc (fun vs H Q E h => ?_) (fun cdv A outer s H vs Q E hr h => ?_)
  · obtain ⟨_, _, _, _, _, _, _, _, rfl, _⟩ := h
    rfl
  obtain ⟨h, d, ds, n0, ra, la, r, ls, rfl, hh, hnd, hra, hla, rl, l1, l4, lok, rok, k⟩ := h
  refine ⟨_, (pss_cons (ps_set (i := 3) sc.nd rfl (Or.inl rfl) (pc g_law_take hr (pa_cons (pv 0) (pa_cons (pe_callB call_len_seq (by rfl) B.len (by decide +kernel) (pa_cons (pv 1) pa_nil)) pa_nil))))
    (pss_cons (ps_set (i := 4) sc.nd rfl (Or.inl rfl) (pe_ix ix_list (pe_lst (pa_cons (pe_ix ix_tup (pv 2) (pv 3) (fun _ _ => rfl)) (pa_cons (pe_un un_neg pe_int) (pa_cons pe_bl (pa_cons pe_bl (pa_cons pe_non (pa_cons pe_str (pa_cons (pe_tup (pa_cons pe_int pa_nil)) (pa_cons (pe_op op_sub (pe_ix ix_tup (pv 2) (pv 3) (fun _ _ => rfl)) pe_int) pa_nil))))))))) (pc g_law_take hr (pa_cons (pv 0) (pa_cons pe_int pa_nil))) (fun _ _ => rfl)))
    (pss_cons (ps_set (i := 5) sc.nd rfl (Or.inl rfl) (pc g_law_take hr (pa_cons (pv 0) (pa_cons pe_int pa_nil))))
    (pss_cons (ps_if (pt_cmpR op_eqi (pv 5) pe_int (nomark _))
      (pss_one (ps_ret (pe_callTy call_list_of (by rfl) B.list (by decide +kernel) (pa_cons (pv 1) pa_nil))))
      pss_nil)
    (pss_cons (ps_if (pt_cmpR op_eqi (pv 5) pe_int (nomark _))
      (pss_one (ps_ret (pe_slice sl_cut (pv 1) po_none (po_some (pe_un un_neg pe_int)))))
      pss_nil)
    (pss_cons (ps_if (pt_cmpR op_eqi (pv 5) pe_int (nomark _))
      (pss_one (ps_ret (pe_op op_plus (pv 1) (pe_tup (pa_cons pe_int pa_nil)))))
      pss_nil)
    (pss_cons (ps_if (PW.pt (pw_and (pt_cmpR op_eqi (pv 5) pe_int (nomark _)) (pw_and1 (pt_cmpR op_in_seq pe_int (pv 1) (by with_unfolding_all rfl)))))
      (pss_cons (ps_set (i := 3) sc.nd rfl (Or.inl rfl) (pe_bmN PySem.F.slot_tuple_index PySem.F.type_tuple_index mt_indexT (pv 1) (pa_cons pe_int pa_nil)))
      (pss_one (ps_set (i := 4) sc.nd rfl (Or.inl rfl) pe_bl)))
      pss_nil)
    (pss_cons (ps_if (PW.pt (pw_and (pt_cmpR op_eqi (pv 5) pe_int (nomark _)) (pw_and1 (pt_cmpR op_in_seq pe_int (pv 1) (by with_unfolding_all rfl)))))
      (pss_cons (ps_set (i := 3) sc.nd rfl (Or.inl rfl) (pe_bmN PySem.F.slot_tuple_index PySem.F.type_tuple_index mt_indexT (pv 1) (pa_cons pe_int pa_nil)))
      (pss_one (ps_set (i := 4) sc.nd rfl (Or.inl rfl) pe_bl)))
      pss_nil)
    (pss_one (ps_ret (pe_op op_plus (pe_op op_plus (pe_slice sl_cut (pv 1) po_none (po_some (pv 3))) (pe_tup (pa_cons (pv 4) pa_nil))) (pe_slice sl_cut (pv 1) (po_some (pe_op op_add (pv 3) pe_int)) po_none)))))))))))), ?_⟩
  have rl' : (r.map V.int).length = r.length := List.length_map _
  refine ⟨_, rfl, _, rfl, ra, _, rfl, .inr hra, h, d, ds, n0, _, rfl, hh.1, hh.2, by omega, by omega, fun a a0 a1 => ?_⟩
  have hh1 := hh.next
  have hra1 := hh.tups.seq hra
  have hla1 := hh.tups.seq hla
  rw [rl'] at a1
  have an : a = ((a.toNat : Nat) : Int) := by omega
  have alt : a.toNat < ls.length := by omega
  have lat : atI (ls.map V.int) a = some (.int ls[a.toNat]) := at_of (j := a.toNat) an (by rw [List.getElem?_map, List.getElem?_eq_getElem alt]; rfl)
  have l60 := lok ls[a.toNat] (List.getElem_mem alt)
  generalize ls[a.toNat] = lz at lat l60
  refine ⟨_, rfl, _, rfl, la, _, _, _, rfl, rfl, hla1, lat, _, rfl, (by show 1 ≤ sizeLine; decide), fun t ht => ?_⟩
  have t1 := same_new ht (.tup [.int 0])
  refine ⟨_, rfl, _, rfl, la, _, _, _, rfl, rfl, t1.seqT hla1, lat, _, _, rfl, rfl, (by show 8 ≤ sizeLine; decide), fun L hL => ?_⟩
  have t2 := same_new hL (.lst [.int lz, .int (-1), .bl true, .bl false, .non, .str "0", .ref t, .int (lz - 1)])
  have b2 := (hh1.same t1).same t2
  have nL : ¬ L = h := (ne_of_none (hh1.same t1).1 hL).symm
  obtain ⟨zs, ezs⟩ : ∃ zs, zs = [PyData.int lz, .int (-1), .bool true, .bool false, .none, .str "0", .tuple [.int 0], .int (lz - 1)] := ⟨_, rfl⟩
  have row : DtAll K (upd (upd (upd H h (.lst [.ref d, .int ((n0 + 1 : Nat) : Int)])) t (.tup [.int 0])) L (.lst [.int lz, .int (-1), .bl true, .bl false, .non, .str "0", .ref t, .int (lz - 1)])) [.int lz, .int (-1), .bl true, .bl false, .non, .str "0", .ref t, .int (lz - 1)] zs := by
    rw [ezs]
    exact .cons (.int _) (.cons (.int _) (.cons (.bl _) (.cons (.bl _) (.cons .non (.cons (.str _) (.cons (.tup (t2.seqT (SqT.of upd_same)) (.cons (.int 0) .nil)) (.cons (.int _) .nil)))))))
  refine ⟨_, rfl, h, d, ds, _, 8, rfl, b2.1, b2.2, by omega, by omega, fun q q0 q1 => ?_⟩
  have row2 := row.stay b2.tups
  have zl : zs.length = 8 := by rw [ezs]; rfl
  obtain ⟨e0, he0, hm0⟩ : ∃ e', zs[q.toNat]? = some e' ∧ Sized 10 2 e' := by
    have lt : q.toNat < zs.length := by omega
    refine ⟨_, List.getElem?_eq_getElem lt, ?_⟩
    have hm := List.getElem_mem lt
    generalize zs[q.toNat] = e' at hm
    rw [ezs] at hm
    simp only [List.mem_cons, List.not_mem_nil, or_false] at hm
    rcases hm with rfl | rfl | rfl | rfl | rfl | rfl | rfl | rfl
    · exact (small_int _ (by omega) (by omega)).more (by decide) (by decide)
    · exact (small_int _ (by decide) (by decide)).more (by decide) (by decide)
    · exact (sized_bl _).more (by decide) (by decide)
    · exact (sized_bl _).more (by decide) (by decide)
    · exact sized_non.more (by decide) (by decide)
    · exact (sized_str "0" (by decide +kernel) 4 (by decide +kernel)).more (by decide) (by decide)
    · exact (sized_one (small_int 0 (by decide) (by decide))).more (by decide) (by decide)
    · exact (small_int _ (by omega) (by omega)).more (by decide) (by decide)
  obtain ⟨y0, hy, hyd0⟩ := row2.at he0
  refine ⟨L, _, _, y0, rfl, rfl, SqL.of (by rw [upd_ne nL, upd_same]), at_of (j := q.toNat) (by omega) hy, ?_⟩
  have hh3 := b2.next
  have g3 := (hh.go.trans (t1.trans t2).go).trans b2.go
  have hra3 := b2.tups.seq ((t1.trans t2).seqT hra1)
  -- shape
  refine ⟨_, rfl, h, d, ds, _, 6, rfl, hh3.1, hh3.2, by omega, by omega, fun sh sh0 sh1 => ?_⟩
  have hh4 := hh3.next
  have g4 := g3.trans hh3.go
  have hra4 := hh3.tups.seq hra3
  have nd4 := hnd.stay g4.tups
  have hyd4 := hyd0.stay hh3.tups
  have sR : ∀ z ∈ r.map PyData.int, Sized 10 2 z := fun z hz => by
    obtain ⟨i, hi, rfl⟩ := List.mem_map.mp hz
    have := rok i hi
    exact (small_int i (by omega) (by omega)).more (by decide) (by decide)
  have fin : ∀ {H2 : Hp} {n2 : Nat} {p : Addr} {xs : List V} {zs : List PyData}, Go (· = h) H H2 → Hand H2 h d ds n2 → SqT K H2 p xs → DtAll K H2 xs zs → zs.length ≤ 9 → (∀ z ∈ zs, Sized 10 2 z) → Q (.ref p) H2 := fun {H2 n2 p xs zs} g hk st da lz all =>
    k _ _ n2 (.tuple zs) g hk (.tup st da.dn) ((sized_tup all).more (Nat.le_trans (Nat.mul_le_mul_right _ lz) (by decide)) (by decide))
  refine ⟨_, rfl, _, _, rfl, rfl, _, rfl, ?_⟩
  refine ite2 (fun _ => ?_) (fun _ => ?_)
  · refine ⟨_, rfl, ra, _, rfl, .inr hra4, fun l hl => ?_⟩
    have t1 := same_new hl (.lst (r.map V.int))
    have nl : ¬ l = h := (ne_of_none hh4.1 hl).symm
    exact k _ _ _ (.list (r.map PyData.int)) (g4.trans t1.go) (hh4.same t1) (.lst nl upd_same (DtAll.ints r).dn) ((sized_lst sR).more (Nat.le_trans (Nat.mul_le_mul_right _ (show (r.map PyData.int).length ≤ 9 by rw [List.length_map]; omega)) (by decide)) (by decide))
  refine ⟨_, rfl, _, _, rfl, rfl, _, rfl, ?_⟩
  refine ite2 (fun _ => ?_) (fun _ => ?_)
  · refine ⟨_, rfl, _, rfl, _, rfl, ra, _, rfl, hra4, fun u1 H5 s5 hu1 => ?_⟩
    rw [cut_butlast (by omega)] at hu1
    exact fin (g4.trans s5.go) (hh4.same s5) hu1 ((DtAll.ints r).take _) (by rw [List.length_take, List.length_map]; omega) (fun z hz => sR z (List.mem_of_mem_take hz))
  refine ⟨_, rfl, _, _, rfl, rfl, _, rfl, ?_⟩
  refine ite2 (fun _ => ?_) (fun _ => ?_)
  · refine ⟨_, rfl, (by show 1 ≤ sizeLine; decide), fun t1 ht1 => ?_⟩
    have a1 := same_new ht1 (.tup [.int 0])
    refine ⟨ra, t1, _, _, rfl, rfl, a1.seqT hra4, SqT.of upd_same, le_sz (by rw [List.length_map]; show _ + 1 ≤ _; omega), fun u2 H5 s5 hu2 => ?_⟩
    exact fin (zs := r.map PyData.int ++ [.int 0]) (g4.trans (a1.trans s5).go) (hh4.same (a1.trans s5)) hu2 ((DtAll.ints r).app (.cons (.int 0) .nil)) (by rw [List.length_append, List.length_map]; show _ + 1 ≤ _; omega) (fun z hz => by
      rcases List.mem_append.mp hz with hz | hz
      · exact sR z hz
      · rw [List.mem_singleton.mp hz]
        exact (small_int 0 (by decide) (by decide)).more (by decide) (by decide))
  refine ⟨_, rfl, _, _, rfl, rfl, _, rfl, ?_⟩
  refine ite2 (fun c => ?_) (fun c => ?_)
  · have c3 := dec_t c
    have n4 : decide (sh = 4) = false := decide_eq_false (by omega)
    refine ⟨_, rfl, ra, _, rfl, .inr hra4, rfl, flat_of r, decide ((1 : Int) ∈ r), in_of r 1, ?_⟩
    refine ite2 (fun hin => ?_) (fun hin => ?_)
    · have hin := dec_t hin
      obtain ⟨j, jl, hj, hno⟩ := idx_of hin
      refine ⟨_, rfl, ⟨ra, rfl, nd4⟩, ra, _, _, j, _, rfl, rfl, hra4, rfl, flat_of r, hj, beq_self_eq_true _, hno, ?_⟩
      refine ⟨_, rfl, _, _, rfl, rfl, _, rfl, ?_⟩
      rw [n4]
      refine iteF ?_
      refine ⟨_, rfl, _, rfl, _, rfl, ra, _, rfl, hra4, fun q4 H4 s4 hq4 => ?_⟩
      rw [cut_to] at hq4
      refine ⟨_, rfl, (by show 1 ≤ sizeLine; decide), fun t ht => ?_⟩
      have t1 := same_new ht (.tup [V.bl true])
      refine ⟨q4, t, _, _, rfl, rfl, t1.seqT hq4, SqT.of upd_same, le_sz (by rw [List.length_take, List.length_map]; show _ + 1 ≤ _; omega), fun q5 H5 s5 hq5 => ?_⟩
      refine ⟨_, rfl, _, rfl, _, _, rfl, rfl, _, rfl, ra, _, rfl, (s4.trans (t1.trans s5)).seqT hra4, fun q6 H6 s6 hq6 => ?_⟩
      rw [show ((j : Nat) : Int) + 1 = ((j + 1 : Nat) : Int) by omega, cut_from] at hq6
      refine ⟨q5, q6, _, _, rfl, rfl, s6.seqT hq5, hq6, le_sz (by rw [List.length_append, List.length_take, List.length_drop, List.length_map]; show _ + 1 + _ ≤ _; omega), fun q7 H7 s7 hq7 => ?_⟩
      have ts := (s4.trans (t1.trans s5)).trans (s6.trans s7)
      have yr := DtAll.ints (K := K) (H := H7) r
      exact fin (zs := (r.map PyData.int).take j ++ [.bool true] ++ (r.map PyData.int).drop (j + 1)) (g4.trans ts.go) (hh4.same ts) hq7 (((yr.take _).app (.cons (.bl true) .nil)).app (yr.drop _)) (by rw [List.length_append, List.length_append, List.length_take, List.length_drop, List.length_map]; show _ + 1 + _ ≤ _; omega) (fun z hz => by
        rcases List.mem_append.mp hz with hz | hz
        · rcases List.mem_append.mp hz with hz | hz
          · exact sR z (List.mem_of_mem_take hz)
          · rw [List.mem_singleton.mp hz]
            exact ((sized_bl true).more (by decide) (by decide))
        · exact sR z (List.mem_of_mem_drop hz))
    · refine ⟨_, rfl, _, _, rfl, rfl, _, rfl, ?_⟩
      rw [n4]
      refine iteF ?_
      obtain ⟨j, ej⟩ : ∃ j, j = a.toNat := ⟨_, rfl⟩
      have jl : j < r.length := by omega
      rw [show a = ((j : Nat) : Int) by omega]
      refine ⟨_, rfl, _, rfl, _, rfl, ra, _, rfl, hra4, fun q4 H4 s4 hq4 => ?_⟩
      rw [cut_to] at hq4
      refine ⟨_, rfl, (by show 1 ≤ sizeLine; decide), fun t ht => ?_⟩
      have t1 := same_new ht (.tup [y0])
      refine ⟨q4, t, _, _, rfl, rfl, t1.seqT hq4, SqT.of upd_same, le_sz (by rw [List.length_take, List.length_map]; show _ + 1 ≤ _; omega), fun q5 H5 s5 hq5 => ?_⟩
      refine ⟨_, rfl, _, rfl, _, _, rfl, rfl, _, rfl, ra, _, rfl, (s4.trans (t1.trans s5)).seqT hra4, fun q6 H6 s6 hq6 => ?_⟩
      rw [show ((j : Nat) : Int) + 1 = ((j + 1 : Nat) : Int) by omega, cut_from] at hq6
      refine ⟨q5, q6, _, _, rfl, rfl, s6.seqT hq5, hq6, le_sz (by rw [List.length_append, List.length_take, List.length_drop, List.length_map]; show _ + 1 + _ ≤ _; omega), fun q7 H7 s7 hq7 => ?_⟩
      have ts := (s4.trans (t1.trans s5)).trans (s6.trans s7)
      have yr := DtAll.ints (K := K) (H := H7) r
      exact fin (zs := (r.map PyData.int).take j ++ [e0] ++ (r.map PyData.int).drop (j + 1)) (g4.trans ts.go) (hh4.same ts) hq7 (((yr.take _).app (.cons (hyd4.stay ts.tups) .nil)).app (yr.drop _)) (by rw [List.length_append, List.length_append, List.length_take, List.length_drop, List.length_map]; show _ + 1 + _ ≤ _; omega) (fun z hz => by
        rcases List.mem_append.mp hz with hz | hz
        · rcases List.mem_append.mp hz with hz | hz
          · exact sR z (List.mem_of_mem_take hz)
          · rw [List.mem_singleton.mp hz]
            exact hm0
        · exact sR z (List.mem_of_mem_drop hz))
  · refine ⟨_, rfl, _, _, rfl, rfl, _, rfl, ?_⟩
    refine ite2 (fun c4 => ?_) (fun c4 => ?_)
    · refine ⟨_, rfl, ra, _, rfl, .inr hra4, rfl, flat_of r, decide ((0 : Int) ∈ r), in_of r 0, ?_⟩
      refine ite2 (fun hin => ?_) (fun hin => ?_)
      · have hin := dec_t hin
        obtain ⟨j, jl, hj, hno⟩ := idx_of hin
        refine ⟨_, rfl, ⟨ra, rfl, nd4⟩, ra, _, _, j, _, rfl, rfl, hra4, rfl, flat_of r, hj, beq_self_eq_true _, hno, ?_⟩
        refine ⟨_, rfl, _, rfl, _, rfl, ra, _, rfl, hra4, fun q4 H4 s4 hq4 => ?_⟩
        rw [cut_to] at hq4
        refine ⟨_, rfl, (by show 1 ≤ sizeLine; decide), fun t ht => ?_⟩
        have t1 := same_new ht (.tup [V.bl false])
        refine ⟨q4, t, _, _, rfl, rfl, t1.seqT hq4, SqT.of upd_same, le_sz (by rw [List.length_take, List.length_map]; show _ + 1 ≤ _; omega), fun q5 H5 s5 hq5 => ?_⟩
        refine ⟨_, rfl, _, rfl, _, _, rfl, rfl, _, rfl, ra, _, rfl, (s4.trans (t1.trans s5)).seqT hra4, fun q6 H6 s6 hq6 => ?_⟩
        rw [show ((j : Nat) : Int) + 1 = ((j + 1 : Nat) : Int) by omega, cut_from] at hq6
        refine ⟨q5, q6, _, _, rfl, rfl, s6.seqT hq5, hq6, le_sz (by rw [List.length_append, List.length_take, List.length_drop, List.length_map]; show _ + 1 + _ ≤ _; omega), fun q7 H7 s7 hq7 => ?_⟩
        have ts := (s4.trans (t1.trans s5)).trans (s6.trans s7)
        have yr := DtAll.ints (K := K) (H := H7) r
        exact fin (zs := (r.map PyData.int).take j ++ [.bool false] ++ (r.map PyData.int).drop (j + 1)) (g4.trans ts.go) (hh4.same ts) hq7 (((yr.take _).app (.cons (.bl false) .nil)).app (yr.drop _)) (by rw [List.length_append, List.length_append, List.length_take, List.length_drop, List.length_map]; show _ + 1 + _ ≤ _; omega) (fun z hz => by
          rcases List.mem_append.mp hz with hz | hz
          · rcases List.mem_append.mp hz with hz | hz
            · exact sR z (List.mem_of_mem_take hz)
            · rw [List.mem_singleton.mp hz]
              exact ((sized_bl false).more (by decide) (by decide))
          · exact sR z (List.mem_of_mem_drop hz))
      ·
        obtain ⟨j, ej⟩ : ∃ j, j = a.toNat := ⟨_, rfl⟩
        have jl : j < r.length := by omega
        rw [show a = ((j : Nat) : Int) by omega]
        refine ⟨_, rfl, _, rfl, _, rfl, ra, _, rfl, hra4, fun q4 H4 s4 hq4 => ?_⟩
        rw [cut_to] at hq4
        refine ⟨_, rfl, (by show 1 ≤ sizeLine; decide), fun t ht => ?_⟩
        have t1 := same_new ht (.tup [y0])
        refine ⟨q4, t, _, _, rfl, rfl, t1.seqT hq4, SqT.of upd_same, le_sz (by rw [List.length_take, List.length_map]; show _ + 1 ≤ _; omega), fun q5 H5 s5 hq5 => ?_⟩
        refine ⟨_, rfl, _, rfl, _, _, rfl, rfl, _, rfl, ra, _, rfl, (s4.trans (t1.trans s5)).seqT hra4, fun q6 H6 s6 hq6 => ?_⟩
        rw [show ((j : Nat) : Int) + 1 = ((j + 1 : Nat) : Int) by omega, cut_from] at hq6
        refine ⟨q5, q6, _, _, rfl, rfl, s6.seqT hq5, hq6, le_sz (by rw [List.length_append, List.length_take, List.length_drop, List.length_map]; show _ + 1 + _ ≤ _; omega), fun q7 H7 s7 hq7 => ?_⟩
        have ts := (s4.trans (t1.trans s5)).trans (s6.trans s7)
        have yr := DtAll.ints (K := K) (H := H7) r
        exact fin (zs := (r.map PyData.int).take j ++ [e0] ++ (r.map PyData.int).drop (j + 1)) (g4.trans ts.go) (hh4.same ts) hq7 (((yr.take _).app (.cons (hyd4.stay ts.tups) .nil)).app (yr.drop _)) (by rw [List.length_append, List.length_append, List.length_take, List.length_drop, List.length_map]; show _ + 1 + _ ≤ _; omega) (fun z hz => by
          rcases List.mem_append.mp hz with hz | hz
          · rcases List.mem_append.mp hz with hz | hz
            · exact sR z (List.mem_of_mem_take hz)
            · rw [List.mem_singleton.mp hz]
              exact hm0
          · exact sR z (List.mem_of_mem_drop hz))
    ·
      obtain ⟨j, ej⟩ : ∃ j, j = a.toNat := ⟨_, rfl⟩
      have jl : j < r.length := by omega
      rw [show a = ((j : Nat) : Int) by omega]
      refine ⟨_, rfl, _, rfl, _, rfl, ra, _, rfl, hra4, fun q4 H4 s4 hq4 => ?_⟩
      rw [cut_to] at hq4
      refine ⟨_, rfl, (by show 1 ≤ sizeLine; decide), fun t ht => ?_⟩
      have t1 := same_new ht (.tup [y0])
      refine ⟨q4, t, _, _, rfl, rfl, t1.seqT hq4, SqT.of upd_same, le_sz (by rw [List.length_take, List.length_map]; show _ + 1 ≤ _; omega), fun q5 H5 s5 hq5 => ?_⟩
      refine ⟨_, rfl, _, rfl, _, _, rfl, rfl, _, rfl, ra, _, rfl, (s4.trans (t1.trans s5)).seqT hra4, fun q6 H6 s6 hq6 => ?_⟩
      rw [show ((j : Nat) : Int) + 1 = ((j + 1 : Nat) : Int) by omega, cut_from] at hq6
      refine ⟨q5, q6, _, _, rfl, rfl, s6.seqT hq5, hq6, le_sz (by rw [List.length_append, List.length_take, List.length_drop, List.length_map]; show _ + 1 + _ ≤ _; omega), fun q7 H7 s7 hq7 => ?_⟩
      have ts := (s4.trans (t1.trans s5)).trans (s6.trans s7)
      have yr := DtAll.ints (K := K) (H := H7) r
      exact fin (zs := (r.map PyData.int).take j ++ [e0] ++ (r.map PyData.int).drop (j + 1)) (g4.trans ts.go) (hh4.same ts) hq7 (((yr.take _).app (.cons (hyd4.stay ts.tups) .nil)).app (yr.drop _)) (by rw [List.length_append, List.length_append, List.length_take, List.length_drop, List.length_map]; show _ + 1 + _ ≤ _; omega) (fun z hz => by
        rcases List.mem_append.mp hz with hz | hz
        · rcases List.mem_append.mp hz with hz | hz
          · exact sR z (List.mem_of_mem_take hz)
          · rw [List.mem_singleton.mp hz]
            exact hm0
        · exact sR z (List.mem_of_mem_drop hz))
end
section
variable {P : Program} {w : World} {K : PySem.W.Frag} {mg : Str → Option Value} {base : Heap}
def spRowsC (K : PySem.W.Frag) : Sp := fun vs H Q _ => ∃ (h d : Addr) (ds : List Int) (n : Nat) (x : V) (la : Addr) (rows : List (List Int)) (ls : List Int), vs = [.ref h, x, .ref la] ∧ Hand H h d ds n ∧ RowsV K H x rows ∧ SqT K H la (ls.map V.int) ∧ Good ls rows ∧ 1 ≤ ls.length ∧ ls.length ≤ 4 ∧ (∀ m ∈ ls, 1 ≤ m ∧ m ≤ 60) ∧
  ∀ (v : V) (H' : Hp) (n' : Nat) (e : PyData), Go (· = h) H H' → Hand H' h d ds n' → Dn (· = h) K H' v e → Sized 700 12 e → Q v H'
set_option maxHeartbeats 2000000 in
theorem ok_rowsc {f : Addr} {fd : FuncData} (B : Blt mg) (g_law_take : Has P w K mg base CX0 1 "_law_take" ["hand", "many"] (spTake K)) (g_law_odd : Has P w K mg base CX0 2 "_law_odd" ["hand"] (spOdd K)) (g_law_row_changes : Has P w K mg base CX0 2 "_law_row_changes" ["hand", "row", "labels"] (spRowC K))
    (F : Fun K "_law_rows_changes" "_law_rows_changes" s_law_rows_changes f fd) : FnOk P w K mg base CX0 3 f fd ["hand", "rows", "labels"] (spRowsC K) := by
  have sc : FnScope ["hand", "rows", "labels", "shape", "at", "k", "many"] ["hand", "rows", "labels"] (defScope s_law_rows_changes) := ⟨rfl, rfl, rfl, by decide +kernel, rfl, by decide +kernel, by decide +kernel⟩
  refine F.ok sc (fun vs H Q E h => ?_) (fun cdv A outer s H vs Q E hr h => ?_)
  · obtain ⟨_, _, _, _, _, _, _, _, rfl, _⟩ := h
    rfl
  obtain ⟨h, d, ds, n0, x, la, rows, ls, rfl, hh, hx, hla, gd, l1, l4, lok, k⟩ := h
  obtain ⟨a, xs, rfl, ha, hxs, hnd⟩ := hx
  refine ⟨_, (pss_cons (ps_set (i := 3) sc.nd rfl (Or.inl rfl) (pc g_law_take hr (pa_cons (pv 0) (pa_cons pe_int pa_nil))))
    (pss_cons (ps_if (pt_cmpR op_eqi (pv 3) pe_int (nomark _))
      (pss_one (ps_ret (pe_callTy call_list_of (by rfl) B.list (by decide +kernel) (pa_cons (pv 1) pa_nil))))
      pss_nil)
    (pss_cons (ps_if (pt_cmpR op_eqi (pv 3) pe_int (nomark _))
      (pss_one (ps_ret (pc g_law_odd hr (pa_cons (pv 0) pa_nil))))
      pss_nil)
    (pss_cons (ps_if (pt_cmpR op_eqi (pe_callB call_len_seq (by rfl) B.len (by decide +kernel) (pa_cons (pv 1) pa_nil)) pe_int (nomark _))
      (pss_one (ps_ret (pe_op op_plus (pe_tup (pa_cons (pe_callTy call_tuple_ofN (by rfl) B.tuple (by decide +kernel) (pa_cons (pe_lc (own := [("many", 6)]) (g := gName 6) (tt := tYes) rfl sc.nd (pi_tup (pv 2)) (blkOk_by (N := ["hand", "rows", "labels", "shape", "at", "k", "many"]) (sc := defScope s_law_rows_changes) (by decide +kernel)) (fun _ _ _ _ _ => pg_name (i := 6) sc.nd rfl (Or.inl rfl)) (fun _ _ _ _ _ => pts_nil) (fun _ _ _ _ _ => pe_int)) pa_nil)) pa_nil)) (pv 1))))
      pss_nil)
    (pss_cons (ps_set (i := 4) sc.nd rfl (Or.inl rfl) (pc g_law_take hr (pa_cons (pv 0) (pa_cons (pe_callB call_len_seq (by rfl) B.len (by decide +kernel) (pa_cons (pv 1) pa_nil)) pa_nil))))
    (pss_cons (ps_if (pt_cmpR op_eqi (pv 3) pe_int (nomark _))
      (pss_one (ps_ret (pe_op op_plus (pe_op op_plus (pe_slice sl_cut (pv 1) po_none (po_some (pv 4))) (pe_tup (pa_cons (pe_ix ix_tup (pv 1) (pv 4) (fun _ _ => rfl)) pa_nil))) (pe_slice sl_cut (pv 1) (po_some (pv 4)) po_none))))
      pss_nil)
    (pss_cons (ps_if (pt_cmpR op_eqi (pv 3) pe_int (nomark _))
      (pss_one (ps_ret (pe_callTy call_tuple_ofN (by rfl) B.tuple (by decide +kernel) (pa_cons (pe_lc (own := [("k", 5)]) (g := gName 5) (tt := tYes) rfl sc.nd (pi_range1 (by rfl) B.range (pa_cons (pe_callB call_len_seq (by rfl) B.len (by decide +kernel) (pa_cons (pv 1) pa_nil)) pa_nil)) (blkOk_by (N := ["hand", "rows", "labels", "shape", "at", "k", "many"]) (sc := defScope s_law_rows_changes) (by decide +kernel)) (fun _ _ _ _ _ => pg_name (i := 5) sc.nd rfl (Or.inl rfl)) (fun _ _ _ _ _ => pts_nil) (fun _ _ _ _ _ => (pe_ix (show IxR _ (rIxT K) from ix_tup) (pv 1) (pe_op op_sub (pe_op op_sub (pe_callB (show CallR _ _ (rLenS K) from call_len_seq) (by rfl) B.len (by decide +kernel) (pa_cons (pv 1) pa_nil)) pe_int) (pv 5)) (fun _ _ => rfl)))) pa_nil))))
      pss_nil)
    (pss_one (ps_ret (pe_op op_plus (pe_op op_plus (pe_slice sl_cut (pv 1) po_none (po_some (pv 4))) (pe_tup (pa_cons (pc g_law_row_changes hr (pa_cons (pv 0) (pa_cons (pe_ix ix_tup (pv 1) (pv 4) (fun _ _ => rfl)) (pa_cons (pv 2) pa_nil)))) pa_nil))) (pe_slice sl_cut (pv 1) (po_some (pe_op op_add (pv 4) pe_int)) po_none))))))))))), ?_⟩
  have xl : xs.length = rows.length := by rw [hxs.len, List.length_map]
  have rl5 : rows.length ≤ 5 := gd.1
  have rs : ∀ r ∈ rows, Sized 10 2 (tupI r) := fun r hr => by
    have e := row_len (gd.2.1 r hr)
    refine (sized_tup (m := 0) (h := 0) fun z hz => ?_).more (by rw [List.length_map]; omega) (by decide)
    obtain ⟨i, hi, rfl⟩ := List.mem_map.mp hz
    have := row_small lok (gd.2.1 r hr) i hi
    exact small_int i (by omega) (by omega)
  have sR : ∀ z ∈ rows.map tupI, Sized 100 10 z := fun z hz => by
    obtain ⟨r, hr, rfl⟩ := List.mem_map.mp hz
    exact (rs r hr).more (by decide) (by decide)
  have fin : ∀ {H2 : Hp} {n2 : Nat} {p : Addr} {xs : List V} {zs : List PyData}, Go (· = h) H H2 → Hand H2 h d ds n2 → SqT K H2 p xs → DnAll (· = h) K H2 xs zs → zs.length ≤ 6 → (∀ z ∈ zs, Sized 100 10 z) → Q (.ref p) H2 := fun {H2 n2 p xs zs} g hk st da lz all =>
    k _ _ n2 (.tuple zs) g hk (.tup st da) ((sized_tup all).more (Nat.le_trans (Nat.mul_le_mul_right _ lz) (by decide)) (by decide))
  refine ⟨_, rfl, h, d, ds, n0, 6, rfl, hh.1, hh.2, by omega, by omega, fun sh sh0 sh1 => ?_⟩
  have hh1 := hh.next
  have g1 := hh.go
  have ha1 := hh.tups.seq ha
  have hx1 := hxs.stay hh.tups
  have hla1 := hh.tups.seq hla
  have hnd1 := hnd.stay hh.tups
  refine ⟨_, rfl, _, _, rfl, rfl, _, rfl, ?_⟩
  refine ite2 (fun _ => ?_) (fun _ => ?_)
  · refine ⟨_, rfl, a, _, rfl, .inr ha1, fun l hl => ?_⟩
    have t1 := same_new hl (.lst xs)
    have nl : ¬ l = h := (ne_of_none hh1.1 hl).symm
    exact k _ _ _ (.list (rows.map tupI)) (g1.trans t1.go) (hh1.same t1) (.lst nl upd_same (hx1.stay t1.tups).dn) ((sized_lst sR).more (Nat.le_trans (Nat.mul_le_mul_right _ (show (rows.map tupI).length ≤ 6 by rw [List.length_map]; omega)) (by decide)) (by decide))
  refine ⟨_, rfl, _, _, rfl, rfl, _, rfl, ?_⟩
  refine ite2 (fun _ => ?_) (fun _ => ?_)
  · exact ⟨_, rfl, h, d, ds, _, rfl, hh1, fun v H2 n2 e g2 hh2 dn se _ => k v H2 n2 e (g1.trans g2) hh2 dn (se.more (by decide) (by decide))⟩
  refine ⟨_, rfl, a, _, rfl, .inr ha1, _, _, rfl, rfl, _, rfl, ?_⟩
  refine ite2 (fun c => ?_) (fun c => ?_)
  · have c0 := dec_t c
    -- a row of zeros
    refine ⟨_, rfl, la, rfl, ⟨_, hla1⟩, fun p hp => ?_⟩
    obtain ⟨nph, npd⟩ := hand_out hh1 hp
    refine itt_walk (K := K) (a := la) (xs := ls.map V.int) (fun j H5 => AccG (· = h) K _ p (((ls.take j).map fun _ => (0 : Int)).map PyData.int) H5 ∧ Same _ H5) ⟨AccG.start hp, same_new hp _⟩ (fun j H5 _ z => z.1.go.seqT hla1) ?_ ?_
    · rintro j y H5 hj ⟨b4, s4⟩
      obtain ⟨m, hm, rfl⟩ := item_of hj
      refine ⟨rfl, ?_⟩
      obtain ⟨acc, e, el, b5⟩ := b4.push (.int 0)
      refine ⟨acc, e, lt_small ?_, ?_, same_own s4 hp _⟩
      · rw [el, List.length_map, List.length_map, List.length_take]
        omega
      · rw [take_more hm, List.map_append, List.map_append]
        exact b5
    rintro H5 ⟨b4, s4⟩
    rw [List.length_map, List.take_of_length_le (Nat.le_refl _)] at b4
    obtain ⟨acc4, eacc4, dacc4⟩ := b4.ex
    refine ⟨p, acc4, rfl, SqL.of eacc4, fun t4 ob4 ht4 hob4 => ⟨(by show 1 ≤ sizeLine; decide), fun t ht => ?_⟩⟩
    have st4 := same_new ht4 (.frz ob4 (.tup acc4))
    have st := same_new ht (.tup [.ref t4])
    have s6 := (s4.trans st4).trans st
    refine ⟨_, rfl, t, a, _, _, rfl, rfl, SqT.of upd_same, s6.seqT ha1, le_sz (by rw [xl]; show 1 + _ ≤ _; omega), fun q7 H7 s7 hq7 => ?_⟩
    have d4 : Dt K H7 (.ref t4) (tupI (ls.map fun _ => (0 : Int))) := Dt.tup ((st.trans s7).seqT (.inl (.inr ⟨_, upd_same⟩))) ((dacc4.stay (st4.trans st).tups).stay s7.tups)
    refine fin (zs := [tupI (ls.map fun _ => (0 : Int))] ++ rows.map tupI) (g1.trans (s6.trans s7).go) (hh1.same (s6.trans s7)) hq7 (DnAll.app (.cons d4.dn .nil) (hx1.stay (s6.trans s7).tups).dn) (by rw [List.length_append, List.length_map]; show 1 + _ ≤ _; omega) (fun z hz => ?_)
    rcases List.mem_append.mp hz with hz | hz
    · rw [List.mem_singleton.mp hz]
      refine (sized_tup (m := 0) (h := 0) fun z hz => ?_).more (by rw [List.length_map, List.length_map]; omega) (by decide)
      obtain ⟨i, hi, rfl⟩ := List.mem_map.mp hz
      obtain ⟨_, _, rfl⟩ := List.mem_map.mp hi
      exact small_int 0 (by omega) (by omega)
    · exact sR z hz
  have c0 := dec_f c
  have rp : 0 < rows.length := by omega
  refine ⟨_, rfl, _, rfl, a, _, rfl, .inr ha1, h, d, ds, _, _, rfl, hh1.1, hh1.2, by omega, by omega, fun q q0 q1 => ?_⟩
  have hh2 := hh1.next
  have g2 := g1.trans hh1.go
  have ha2 := hh1.tups.seq ha1
  have hx2 := hx1.stay hh1.tups
  have hla2 := hh1.tups.seq hla1
  have hnd2 := hnd1.stay hh1.tups
  have qn : q = ((q.toNat : Nat) : Int) := by omega
  have ql : q.toNat < rows.length := by omega
  obtain ⟨v, hv, hvd⟩ := hx2.at (show (rows.map tupI)[q.toNat]? = some (tupI rows[q.toNat]) by rw [List.getElem?_map, List.getElem?_eq_getElem ql]; rfl)
  obtain ⟨ri, rfl, hri⟩ : ∃ ri, v = .ref ri ∧ SqT K _ ri (rows[q.toNat].map V.int) := by
    cases hvd with
    | tup h1 h2 => exact ⟨_, rfl, by rw [← ints_of h2]; exact h1⟩
  have ndri := hnd2 ri (List.mem_of_getElem? hv)
  have okr := gd.2.1 _ (List.getElem_mem ql)
  have atq : atI xs q = some (.ref ri) := at_of (j := q.toNat) qn hv
  have few : ∀ n : Nat, ((xs.take n).length + 1) ≤ 100 := fun n => by rw [List.length_take]; omega
  refine ⟨_, rfl, _, _, rfl, rfl, _, rfl, ?_⟩
  refine ite2 (fun _ => ?_) (fun _ => ?_)
  · refine ⟨_, rfl, _, rfl, _, rfl, a, _, rfl, ha2, fun q4 H4 s4 hq4 => ?_⟩
    rw [qn, cut_to] at hq4
    refine ⟨_, rfl, _, rfl, a, _, _, _, rfl, rfl, s4.seqT ha2, atq, (by show 1 ≤ sizeLine; decide), fun t ht => ?_⟩
    have t1 := same_new ht (.tup [.ref ri])
    refine ⟨q4, t, _, _, rfl, rfl, t1.seqT hq4, SqT.of upd_same, le_sz (by have := few q.toNat; show _ + 1 ≤ _; omega), fun q5 H5 s5 hq5 => ?_⟩
    refine ⟨_, rfl, _, rfl, _, rfl, a, _, rfl, (s4.trans (t1.trans s5)).seqT ha2, fun q6 H6 s6 hq6 => ?_⟩
    rw [qn, cut_from] at hq6
    refine ⟨q5, q6, _, _, rfl, rfl, s6.seqT hq5, hq6, le_sz (by rw [List.length_append, List.length_drop]; have := few q.toNat; show _ + 1 + _ ≤ _; omega), fun q7 H7 s7 hq7 => ?_⟩
    have ts := (s4.trans (t1.trans s5)).trans (s6.trans s7)
    have yr := hx2.stay ts.tups
    refine fin (zs := (rows.map tupI).take q.toNat ++ [tupI rows[q.toNat]] ++ (rows.map tupI).drop q.toNat) (g2.trans ts.go) (hh2.same ts) hq7 (DtAll.dn (((yr.take _).app (.cons (hvd.stay ts.tups) .nil)).app (yr.drop _))) (by rw [List.length_append, List.length_append, List.length_take, List.length_drop, List.length_map]; show _ + 1 + _ ≤ _; omega) (fun z hz => ?_)
    rcases List.mem_append.mp hz with hz | hz
    · rcases List.mem_append.mp hz with hz | hz
      · exact sR z (List.mem_of_mem_take hz)
      · rw [List.mem_singleton.mp hz]
        exact (rs _ (List.getElem_mem ql)).more (by decide) (by decide)
    · exact sR z (List.mem_of_mem_drop hz)
  refine ⟨_, rfl, _, _, rfl, rfl, _, rfl, ?_⟩
  refine ite2 (fun _ => ?_) (fun _ => ?_)
  · refine ⟨_, rfl, a, _, rfl, .inr ha2, ((xs.length : Nat) : Int), rfl, by omega, by omega, fun p hp => ?_⟩
    refine itr_walk (lo := 0) (n := ((xs.length : Nat) : Int).toNat) (fun i H5 => ∃ zs : List PyData, AccG (· = h) K _ p zs H5 ∧ Same _ H5 ∧ zs.length = i ∧ ∀ z ∈ zs, Sized 100 10 z) ⟨[], AccG.start hp, same_new hp _, rfl, fun z hz => absurd hz List.not_mem_nil⟩ ?_ ?_
    · rintro i H5 hi ⟨zs, b, s5, zl, sz⟩
      refine ⟨rfl, ?_⟩
      have il : xs.length - 1 - i < rows.length := by omega
      obtain ⟨v5, hv5, hd5⟩ := (hx2.stay s5.tups).at (show (rows.map tupI)[xs.length - 1 - i]? = some (tupI rows[xs.length - 1 - i]) by rw [List.getElem?_map, List.getElem?_eq_getElem il]; rfl)
      refine ⟨_, rfl, _, rfl, a, _, rfl, .inr (s5.seqT ha2), _, _, rfl, rfl, _, rfl, _, _, rfl, rfl, a, _, _, _, rfl, rfl, s5.seqT ha2, at_of (j := xs.length - 1 - i) (by omega) hv5, ?_⟩
      obtain ⟨acc, e, el, b5⟩ := b.push hd5
      refine ⟨acc, e, lt_small (by rw [el]; omega), _, b5, same_own s5 hp _, by rw [List.length_append, zl]; rfl, fun z hz => ?_⟩
      rcases List.mem_append.mp hz with hz | hz
      · exact sz z hz
      · rw [List.mem_singleton.mp hz]
        exact (rs _ (List.getElem_mem il)).more (by decide) (by decide)
    · rintro H5 ⟨zs, b, s5, zl, sz⟩
      obtain ⟨acc, eacc, dacc⟩ := b.ex
      refine ⟨p, acc, rfl, SqL.of eacc, fun t4 ob4 ht4 hob4 => ?_⟩
      have st4 := same_new ht4 (.frz ob4 (.tup acc))
      exact fin (g2.trans (s5.trans st4).go) (hh2.same (s5.trans st4)) (.inl (.inr ⟨_, upd_same⟩)) (dacc.stay st4.tups).dn (by omega) sz
  · refine ⟨_, rfl, _, rfl, _, rfl, a, _, rfl, ha2, fun q4 H4 s4 hq4 => ?_⟩
    rw [qn, cut_to] at hq4
    refine ⟨_, rfl, _, rfl, _, rfl, a, _, _, _, rfl, rfl, s4.seqT ha2, atq, _, rfl, h, d, ds, _, ri, la, rows[q.toNat], ls, rfl, hh2.same s4, ndri.stay s4.tups, s4.seqT hri, s4.seqT hla2, row_len okr, l1, l4, lok, row_small lok okr, fun y H5 n5 e' g5 hh5 hyd se => ?_⟩
    refine ⟨(by show 1 ≤ sizeLine; decide), fun t ht => ?_⟩
    have t1 := same_new ht (.tup [y])
    refine ⟨q4, t, _, _, rfl, rfl, t1.seqT (g5.seqT hq4), SqT.of upd_same, le_sz (by have := few q.toNat; show _ + 1 ≤ _; omega), fun q5 H6 s6 hq5 => ?_⟩
    have g6 : Go (· = h) _ H6 := (s4.go.trans g5).trans (t1.trans s6).go
    refine ⟨_, rfl, _, rfl, _, _, rfl, rfl, _, rfl, a, _, rfl, g6.seqT ha2, fun q6 H7 s7 hq6 => ?_⟩
    rw [show q + 1 = ((q.toNat + 1 : Nat) : Int) by omega, cut_from] at hq6
    refine ⟨q5, q6, _, _, rfl, rfl, s7.seqT hq5, hq6, le_sz (by rw [List.length_append, List.length_drop]; have := few q.toNat; show _ + 1 + _ ≤ _; omega), fun q7 H8 s8 hq7 => ?_⟩
    have ts := (t1.trans s6).trans (s7.trans s8)
    have g8 := (s4.go.trans g5).trans ts.go
    have yr := hx2.stay g8.tups
    refine fin (zs := (rows.map tupI).take q.toNat ++ [e'] ++ (rows.map tupI).drop (q.toNat + 1)) (g2.trans g8) (hh5.same ts) hq7 (DnAll.app (DnAll.app (yr.take _).dn (.cons (hyd.stay ts.go) .nil)) (yr.drop _).dn) (by rw [List.length_append, List.length_append, List.length_take, List.length_drop, List.length_map]; show _ + 1 + _ ≤ _; omega) (fun z hz => ?_)
    rcases List.mem_append.mp hz with hz | hz
    · rcases List.mem_append.mp hz with hz | hz
      · exact sR z (List.mem_of_mem_take hz)
      · rw [List.mem_singleton.mp hz]
        exact se
    · exact sR z (List.mem_of_mem_drop hz)
end
section
variable {P : Program} {w : World} {K : PySem.W.Frag} {mg : Str → Option Value} {base : Heap}
theorem rows_sized {ls : List Int} {rows : List (List Int)} (gd : Good ls rows) (l4 : ls.length ≤ 4) (lok : ∀ m ∈ ls, 1 ≤ m ∧ m ≤ 60) : Sized 60 3 (.tuple (rows.map tupI)) := by
  refine (sized_tup (m := 10) (h := 2) fun z hz => ?_).more (by rw [List.length_map]; have := gd.1; omega) (by decide)
  obtain ⟨r, hr, rfl⟩ := List.mem_map.mp hz
  have e := row_len (gd.2.1 r hr)
  refine (sized_tup (m := 0) (h := 0) fun z hz => ?_).more (by rw [List.length_map]; omega) (by decide)
  obtain ⟨i, hi, rfl⟩ := List.mem_map.mp hz
  have := row_small lok (gd.2.1 r hr) i hi
  exact small_int i (by omega) (by omega)
def spSideC (K : PySem.W.Frag) : Sp := fun vs H Q _ => ∃ (h d : Addr) (ds : List Int) (n : Nat) (x : V) (la : Addr) (W : List (List (List Int))) (ls : List Int), vs = [.ref h, x, .ref la] ∧ Hand H h d ds n ∧ SideV K H x W ∧ SqT K H la (ls.map V.int) ∧ GoodS ls W ∧ 1 ≤ ls.length ∧ ls.length ≤ 4 ∧ (∀ m ∈ ls, 1 ≤ m ∧ m ≤ 60) ∧
  ∀ (v : V) (H' : Hp) (n' : Nat) (e : PyData), Go (· = h) H H' → Hand H' h d ds n' → Dn (· = h) K H' v e → Sized 14000 14 e → Q v H'
set_option maxHeartbeats 2000000 in
theorem ok_sidec {f : Addr} {fd : FuncData} (B : Blt mg) (g_law_take : Has P w K mg base CX0 1 "_law_take" ["hand", "many"] (spTake K)) (g_law_odd : Has P w K mg base CX0 2 "_law_odd" ["hand"] (spOdd K)) (g_law_rows_changes : Has P w K mg base CX0 3 "_law_rows_changes" ["hand", "rows", "labels"] (spRowsC K))
    (F : Fun K "_law_side_changes" "_law_side_changes" s_law_side_changes f fd) : FnOk P w K mg base CX0 4 f fd ["hand", "side", "labels"] (spSideC K) := by
  have sc : FnScope ["hand", "side", "labels", "shape", "at"] ["hand", "side", "labels"] (defScope s_law_side_changes) := ⟨rfl, rfl, rfl, by decide +kernel, rfl, by decide +kernel, by decide +kernel⟩
  refine F.ok sc (fun vs H Q E h => ?_) (fun cdv A outer s H vs Q E hr h => ?_)
  · obtain ⟨_, _, _, _, _, _, _, _, rfl, _⟩ := h
    rfl
  obtain ⟨h, d, ds, n0, x, la, W, ls, rfl, hh, hx, hla, gd, l1, l4, lok, k⟩ := h
  obtain ⟨a, xs, rfl, ha, hxs⟩ := hx
  refine ⟨_, (pss_cons (ps_set (i := 3) sc.nd rfl (Or.inl rfl) (pc g_law_take hr (pa_cons (pv 0) (pa_cons pe_int pa_nil))))
    (pss_cons (ps_if (pt_cmpR op_eqi (pv 3) pe_int (nomark _))
      (pss_one (ps_ret (pe_callTy call_list_of (by rfl) B.list (by decide +kernel) (pa_cons (pv 1) pa_nil))))
      pss_nil)
    (pss_cons (ps_if (pt_cmpR op_eqi (pv 3) pe_int (nomark _))
      (pss_one (ps_ret (pc g_law_odd hr (pa_cons (pv 0) pa_nil))))
      pss_nil)
    (pss_cons (ps_if (pt_cmpR op_eqi (pv 3) pe_int (nomark _))
      (pss_one (ps_ret (pe_op op_plus (pe_op op_plus (pe_op op_plus (pe_op op_plus (pv 1) (pv 1)) (pv 1)) (pv 1)) (pe_slice sl_cut (pv 1) po_none (po_some pe_int)))))
      pss_nil)
    (pss_cons (ps_set (i := 4) sc.nd rfl (Or.inl rfl) (pc g_law_take hr (pa_cons (pv 0) (pa_cons (pe_callB call_len_seq (by rfl) B.len (by decide +kernel) (pa_cons (pv 1) pa_nil)) pa_nil))))
    (pss_one (ps_ret (pe_op op_plus (pe_op op_plus (pe_slice sl_cut (pv 1) po_none (po_some (pv 4))) (pe_tup (pa_cons (pc g_law_rows_changes hr (pa_cons (pv 0) (pa_cons (pe_ix ix_tup (pv 1) (pv 4) (fun _ _ => rfl)) (pa_cons (pv 2) pa_nil)))) pa_nil))) (pe_slice sl_cut (pv 1) (po_some (pe_op op_add (pv 4) pe_int)) po_none))))))))), ?_⟩
  have xl : xs.length = W.length := hxs.len
  obtain ⟨w1, w4, gW⟩ := gd
  have sR : ∀ z ∈ (W.map fun rows => PyData.tuple (rows.map tupI)), Sized 700 12 z := fun z hz => by
    obtain ⟨r, hr, rfl⟩ := List.mem_map.mp hz
    exact (rows_sized (gW r hr) l4 lok).more (by decide) (by decide)
  have fin : ∀ {H2 : Hp} {n2 : Nat} {p : Addr} {xs : List V} {zs : List PyData}, Go (· = h) H H2 → Hand H2 h d ds n2 → SqT K H2 p xs → DnAll (· = h) K H2 xs zs → zs.length ≤ 17 → (∀ z ∈ zs, Sized 700 12 z) → Q (.ref p) H2 := fun {H2 n2 p xs zs} g hk st da lz all =>
    k _ _ n2 (.tuple zs) g hk (.tup st da) ((sized_tup all).more (Nat.le_trans (Nat.mul_le_mul_right _ lz) (by decide)) (by decide))
  refine ⟨_, rfl, h, d, ds, n0, 7, rfl, hh.1, hh.2, by omega, by omega, fun sh sh0 sh1 => ?_⟩
  have hh1 := hh.next
  have g1 := hh.go
  have ha1 := hh.tups.seq ha
  have hx1 := hxs.stay hh.tups
  have hla1 := hh.tups.seq hla
  refine ⟨_, rfl, _, _, rfl, rfl, _, rfl, ?_⟩
  refine ite2 (fun _ => ?_) (fun _ => ?_)
  · refine ⟨_, rfl, a, _, rfl, .inr ha1, fun l hl => ?_⟩
    have t1 := same_new hl (.lst xs)
    have nl : ¬ l = h := (ne_of_none hh1.1 hl).symm
    exact k _ _ _ (.list (W.map fun rows => PyData.tuple (rows.map tupI))) (g1.trans t1.go) (hh1.same t1) (.lst nl upd_same (hx1.stay t1.tups).dt.dn) ((sized_lst sR).more (Nat.le_trans (Nat.mul_le_mul_right _ (show (W.map fun rows => PyData.tuple (rows.map tupI)).length ≤ 17 by rw [List.length_map]; omega)) (by decide)) (by decide))
  refine ⟨_, rfl, _, _, rfl, rfl, _, rfl, ?_⟩
  refine ite2 (fun _ => ?_) (fun _ => ?_)
  · exact ⟨_, rfl, h, d, ds, _, rfl, hh1, fun v H2 n2 e g2 hh2 dn se _ => k v H2 n2 e (g1.trans g2) hh2 dn (se.more (by decide) (by decide))⟩
  refine ⟨_, rfl, _, _, rfl, rfl, _, rfl, ?_⟩
  refine ite2 (fun _ => ?_) (fun _ => ?_)
  · refine ⟨_, rfl, _, rfl, a, a, _, _, rfl, rfl, ha1, ha1, le_sz (by omega), fun q1 H2 s2 hq1 => ?_⟩
    refine ⟨_, rfl, q1, a, _, _, rfl, rfl, hq1, s2.seqT ha1, le_sz (by rw [List.length_append]; omega), fun q2 H3 s3 hq2 => ?_⟩
    refine ⟨_, rfl, q2, a, _, _, rfl, rfl, hq2, (s2.trans s3).seqT ha1, le_sz (by rw [List.length_append, List.length_append]; omega), fun q3 H4 s4 hq3 => ?_⟩
    refine ⟨_, rfl, _, rfl, a, _, rfl, ((s2.trans s3).trans s4).seqT ha1, fun q4 H5 s5 hq4 => ?_⟩
    rw [show (1 : Int) = ((1 : Nat) : Int) from rfl, cut_to] at hq4
    refine ⟨q3, q4, _, _, rfl, rfl, s5.seqT hq3, hq4, le_sz (by rw [List.length_append, List.length_append, List.length_append, List.length_take]; omega), fun q5 H6 s6 hq5 => ?_⟩
    have ts := (((s2.trans s3).trans s4).trans s5).trans s6
    have yr := (hx1.stay ts.tups).dt
    refine fin (g1.trans ts.go) (hh1.same ts) hq5 ((((yr.app yr).app yr).app yr).app (yr.take 1)).dn (by rw [List.length_append, List.length_append, List.length_append, List.length_append, List.length_take, List.length_map]; omega) (fun z hz => ?_)
    rcases List.mem_append.mp hz with hz | hz
    · rcases List.mem_append.mp hz with hz | hz
      · rcases List.mem_append.mp hz with hz | hz
        · rcases List.mem_append.mp hz with hz | hz
          · exact sR z hz
          · exact sR z hz
        · exact sR z hz
      · exact sR z hz
    · exact sR z (List.mem_of_mem_take hz)
  refine ⟨_, rfl, _, rfl, a, _, rfl, .inr ha1, h, d, ds, _, _, rfl, hh1.1, hh1.2, by omega, by omega, fun q q0 q1 => ?_⟩
  have hh2 := hh1.next
  have g2 := g1.trans hh1.go
  have ha2 := hh1.tups.seq ha1
  have hx2 := hx1.stay hh1.tups
  have hla2 := hh1.tups.seq hla1
  have qn : q = ((q.toNat : Nat) : Int) := by omega
  have ql : q.toNat < W.length := by omega
  obtain ⟨v, hv, hvd⟩ := hx2.at ql
  have gq : Good ls (W.getD q.toNat []) := by
    have : W.getD q.toNat [] = W[q.toNat] := by simp [List.getD, ql]
    rw [this]
    exact gW _ (List.getElem_mem ql)
  have atq : atI xs q = some v := at_of (j := q.toNat) qn hv
  have few : ∀ n : Nat, ((xs.take n).length + 1) ≤ 100 := fun n => by rw [List.length_take]; omega
  refine ⟨_, rfl, _, rfl, _, rfl, a, _, rfl, ha2, fun q4 H4 s4 hq4 => ?_⟩
  rw [qn, cut_to] at hq4
  refine ⟨_, rfl, _, rfl, _, rfl, a, _, _, _, rfl, rfl, s4.seqT ha2, atq, _, rfl, h, d, ds, _, v, la, _, ls, rfl, hh2.same s4, hvd.stay s4.tups, s4.seqT hla2, gq, l1, l4, lok, fun y H5 n5 e' g5 hh5 hyd se => ?_⟩
  refine ⟨(by show 1 ≤ sizeLine; decide), fun t ht => ?_⟩
  have t1 := same_new ht (.tup [y])
  refine ⟨q4, t, _, _, rfl, rfl, t1.seqT (g5.seqT hq4), SqT.of upd_same, le_sz (by have := few q.toNat; show _ + 1 ≤ _; omega), fun q5 H6 s6 hq5 => ?_⟩
  have g6 : Go (· = h) _ H6 := (s4.go.trans g5).trans (t1.trans s6).go
  refine ⟨_, rfl, _, rfl, _, _, rfl, rfl, _, rfl, a, _, rfl, g6.seqT ha2, fun q6 H7 s7 hq6 => ?_⟩
  rw [show q + 1 = ((q.toNat + 1 : Nat) : Int) by omega, cut_from] at hq6
  refine ⟨q5, q6, _, _, rfl, rfl, s7.seqT hq5, hq6, le_sz (by rw [List.length_append, List.length_drop]; have := few q.toNat; show _ + 1 + _ ≤ _; omega), fun q7 H8 s8 hq7 => ?_⟩
  have ts := (t1.trans s6).trans (s7.trans s8)
  have g8 := (s4.go.trans g5).trans ts.go
  have yr := (hx2.stay g8.tups).dt
  refine fin (g2.trans g8) (hh5.same ts) hq7 (DnAll.app (DnAll.app (yr.take _).dn (.cons (hyd.stay ts.go) .nil)) (yr.drop _).dn) (by rw [List.length_append, List.length_append, List.length_take, List.length_drop, List.length_map]; show _ + 1 + _ ≤ _; omega) (fun z hz => ?_)
  rcases List.mem_append.mp hz with hz | hz
  · rcases List.mem_append.mp hz with hz | hz
    · exact sR z (List.mem_of_mem_take hz)
    · rw [List.mem_singleton.mp hz]
      exact se
  · exact sR z (List.mem_of_mem_drop hz)
end
section
variable {P : Program} {w : World} {K : PySem.W.Frag} {mg : Str → Option Value} {base : Heap}
def spChg (K : PySem.W.Frag) : Sp := fun vs H Q _ => ∃ (h d : Addr) (ds : List Int) (n : Nat) (x : V) (D : Int) (ls : List Int) (W B : List (List (List Int))), vs = [.ref h, x] ∧ Hand H h d ds n ∧ TaskV K H x D ls W B ∧ 2 ≤ D ∧ D ≤ 4 ∧ LabOk D ls ∧ GoodS ls W ∧ GoodS ls B ∧
  ∀ (v : V) (H' : Hp) (n' : Nat) (e : PyData), Go (· = h) H H' → Hand H' h d ds n' → Dn (· = h) K H' v e → Sized 90000 16 e → WordOk e → Q v H'
theorem word_str {l : List PyData} : WordOk (.tuple (.str "task" :: l)) := fun w r e _ => by
  cases e
  decide +kernel
theorem word_no {l : List PyData} (h : l.length ≠ 5) : WordOk (.tuple l) := fun w r e hr => by
  cases e
  exact absurd (by rw [List.length_cons, hr]) h
set_option maxHeartbeats 4000000 in
theorem ok_chg {f : Addr} {fd : FuncData} (B : Blt mg) (g_law_take : Has P w K mg base CX0 1 "_law_take" ["hand", "many"] (spTake K)) (g_law_odd : Has P w K mg base CX0 2 "_law_odd" ["hand"] (spOdd K)) (g_law_label_changes : Has P w K mg base CX0 2 "_law_label_changes" ["hand", "task"] (spLabC K)) (g_law_side_changes : Has P w K mg base CX0 4 "_law_side_changes" ["hand", "side", "labels"] (spSideC K))
    (F : Fun K "_law_changed" "_law_changed" s_law_changed f fd) : FnOk P w K mg base CX0 5 f fd ["hand", "task"] (spChg K) := by
  have sc : FnScope ["hand", "task", "shape", "other"] ["hand", "task"] (defScope s_law_changed) := ⟨rfl, rfl, rfl, by decide +kernel, rfl, by decide +kernel, by decide +kernel⟩
  refine F.ok sc (fun vs H Q E h => ?_) (fun cdv A outer s H vs Q E hr h => ?_)
  · obtain ⟨_, _, _, _, _, _, _, _, _, rfl, _⟩ := h
    rfl
  obtain ⟨h, d, ds, n0, x, D, ls, W, Bl, rfl, hh, hT, D2, D4, lab, gW, gB, k⟩ := h
  refine ⟨_, (pss_cons (ps_set (i := 2) sc.nd rfl (Or.inl rfl) (pc g_law_take hr (pa_cons (pv 0) (pa_cons pe_int pa_nil))))
    (pss_cons (ps_if (pt_cmpR op_eqi (pv 2) pe_int (nomark _))
      (pss_one (ps_ret (pe_ix ix_list (pe_lst (pa_cons (pe_callTy call_list_of (by rfl) B.list (by decide +kernel) (pa_cons (pv 1) pa_nil)) (pa_cons (pe_slice sl_cut (pv 1) po_none (po_some (pe_un un_neg pe_int))) (pa_cons (pe_op op_plus (pv 1) (pe_tup (pa_cons (pe_tup pa_nil) pa_nil))) (pa_cons (pe_tup (pa_cons (pv 1) pa_nil)) (pa_cons (pe_slice sl_cut (pv 1) (po_some pe_int) po_none) pa_nil)))))) (pc g_law_take hr (pa_cons (pv 0) (pa_cons pe_int pa_nil))) (fun _ _ => rfl))))
      pss_nil)
    (pss_cons (ps_if (pt_cmpR op_eqi (pv 2) pe_int (nomark _))
      (pss_one (ps_ret (pe_op op_plus (pe_tup (pa_cons (pe_ix ix_list (pe_lst (pa_cons pe_non (pa_cons pe_str (pa_cons pe_str (pa_cons pe_str (pa_cons (pe_tup (pa_cons pe_str pa_nil)) (pa_cons pe_bl pa_nil))))))) (pc g_law_take hr (pa_cons (pv 0) (pa_cons pe_int pa_nil))) (fun _ _ => rfl)) pa_nil)) (pe_slice sl_cut (pv 1) (po_some pe_int) po_none))))
      pss_nil)
    (pss_cons (ps_if (pt_cmpR op_eqi (pv 2) pe_int (nomark _))
      (pss_cons (ps_set (i := 3) sc.nd rfl (Or.inl rfl) (pe_ix ix_list (pe_lst (pa_cons pe_int (pa_cons pe_int (pa_cons pe_bl (pa_cons pe_non (pa_cons pe_str (pa_cons (pe_op op_add (pe_ix ix_tup (pv 1) pe_int (fun _ _ => rfl)) pe_int) (pa_cons (pe_op op_sub (pe_ix ix_tup (pv 1) pe_int (fun _ _ => rfl)) pe_int) (pa_cons (pe_un un_neg pe_int) (pa_cons (pe_tup (pa_cons pe_int pa_nil)) pa_nil)))))))))) (pc g_law_take hr (pa_cons (pv 0) (pa_cons pe_int pa_nil))) (fun _ _ => rfl)))
      (pss_one (ps_ret (pe_op op_plus (pe_tup (pa_cons (pe_ix ix_tup (pv 1) pe_int (fun _ _ => rfl)) (pa_cons (pv 3) pa_nil))) (pe_slice sl_cut (pv 1) (po_some pe_int) po_none)))))
      pss_nil)
    (pss_cons (ps_if (pt_cmpR op_lt (pv 2) pe_int (nomark _))
      (pss_one (ps_ret (pe_op op_plus (pe_op op_plus (pe_slice sl_cut (pv 1) po_none (po_some pe_int)) (pe_tup (pa_cons (pc g_law_label_changes hr (pa_cons (pv 0) (pa_cons (pv 1) pa_nil))) pa_nil))) (pe_slice sl_cut (pv 1) (po_some pe_int) po_none))))
      pss_nil)
    (pss_cons (ps_if (pt_cmpR op_lt (pv 2) pe_int (nomark _))
      (pss_one (ps_ret (pe_op op_plus (pe_op op_plus (pe_slice sl_cut (pv 1) po_none (po_some pe_int)) (pe_tup (pa_cons (pc g_law_side_changes hr (pa_cons (pv 0) (pa_cons (pe_ix ix_tup (pv 1) pe_int (fun _ _ => rfl)) (pa_cons (pe_ix ix_tup (pv 1) pe_int (fun _ _ => rfl)) pa_nil)))) pa_nil))) (pe_slice sl_cut (pv 1) (po_some pe_int) po_none))))
      pss_nil)
    (pss_cons (ps_if (pt_cmpR op_lt (pv 2) pe_int (nomark _))
      (pss_one (ps_ret (pe_op op_plus (pe_slice sl_cut (pv 1) po_none (po_some pe_int)) (pe_tup (pa_cons (pc g_law_side_changes hr (pa_cons (pv 0) (pa_cons (pe_ix ix_tup (pv 1) pe_int (fun _ _ => rfl)) (pa_cons (pe_ix ix_tup (pv 1) pe_int (fun _ _ => rfl)) pa_nil)))) pa_nil)))))
      pss_nil)
    (pss_one (ps_ret (pc g_law_odd hr (pa_cons (pv 0) pa_nil))))))))))), ?_⟩
  obtain ⟨ta, la, wv, bv, rfl, hta, hla, hW, hB⟩ := hT
  have l24 : 2 ≤ ls.length ∧ ls.length ≤ 4 := by have := lab.1; omega
  obtain ⟨p1, p2, p3, p4, p5⟩ := task_parts_sized (D := D) (by omega) (by omega) lab.2.1 l24.2 gW gB
  have sR : ∀ z ∈ [PyData.str "task", .int D, tupI ls, sideD W, sideD Bl], Sized 14000 14 z := fun z hz => by
    simp only [List.mem_cons, List.not_mem_nil, or_false] at hz
    rcases hz with rfl | rfl | rfl | rfl | rfl
    · exact p1.more (by decide) (by decide)
    · exact p2.more (by decide) (by decide)
    · exact p3.more (by decide) (by decide)
    · exact p4.more (by decide) (by decide)
    · exact p5.more (by decide) (by decide)
  have row : ∀ {H2 : Hp}, TupsStay H H2 → DtAll K H2 [.str "task", .int D, .ref la, wv, bv] [PyData.str "task", .int D, tupI ls, sideD W, sideD Bl] := fun {H2} s =>
    .cons (.str _) (.cons (.int _) (.cons (.tup (s.seq hla) (DtAll.ints ls)) (.cons (hW.stay s).dt (.cons (hB.stay s).dt .nil))))
  have fin : ∀ {H2 : Hp} {n2 : Nat} {p : Addr} {xs : List V} {zs : List PyData}, Go (· = h) H H2 → Hand H2 h d ds n2 → SqT K H2 p xs → DnAll (· = h) K H2 xs zs → zs.length ≤ 6 → (∀ z ∈ zs, Sized 14000 14 z) → WordOk (.tuple zs) → Q (.ref p) H2 := fun {H2 n2 p xs zs} g hk st da lz all wo =>
    k _ _ n2 (.tuple zs) g hk (.tup st da) ((sized_tup all).more (Nat.le_trans (Nat.mul_le_mul_right _ lz) (by decide)) (by decide)) wo
  refine ⟨_, rfl, h, d, ds, n0, 12, rfl, hh.1, hh.2, by omega, by omega, fun sh sh0 sh1 => ?_⟩
  have hh1 := hh.next
  have g1 := hh.go
  have ta1 := hh.tups.seq hta
  refine ⟨_, rfl, _, _, rfl, rfl, _, rfl, ?_⟩
  refine ite2 (fun _ => ?_) (fun _ => ?_)
  · -- 0: a list, too few, too many parts
    refine ⟨_, rfl, ta, _, rfl, .inr ta1, fun u1 hu1 => ?_⟩
    have t1 := same_new hu1 (.lst [.str "task", .int D, .ref la, wv, bv])
    have nu1 : ¬ u1 = h := (ne_of_none hh1.1 hu1).symm
    refine ⟨_, rfl, _, rfl, _, rfl, ta, _, rfl, t1.seqT ta1, fun u2 H2 s2 hu2 => ?_⟩
    rw [cut_butlast (by show 1 ≤ 5; decide)] at hu2
    refine ⟨_, rfl, Nat.zero_le _, fun u0 hu0 => ⟨(by show 1 ≤ sizeLine; decide), fun u3 hu3 => ?_⟩⟩
    have t0 := same_new hu0 (.tup [])
    have t3 := same_new hu3 (.tup [.ref u0])
    have sA := (t1.trans s2).trans (t0.trans t3)
    refine ⟨ta, u3, _, _, rfl, rfl, sA.seqT ta1, SqT.of upd_same, (by show 6 ≤ sizeLine; decide), fun u4 H4 s4 hu4 => ?_⟩
    refine ⟨_, rfl, (by show 1 ≤ sizeLine; decide), fun u5 hu5 => ?_⟩
    have t5 := same_new hu5 (.tup [.ref ta])
    have sB := (sA.trans s4).trans t5
    refine ⟨_, rfl, _, rfl, ta, _, rfl, sB.seqT ta1, fun u6 H6 s6 hu6 => ⟨(by show 5 ≤ sizeLine; decide), fun L hL => ?_⟩⟩
    rw [show (1 : Int) = ((1 : Nat) : Int) from rfl, cut_from] at hu6
    have t7 := same_new hL (.lst [.ref u1, .ref u2, .ref u4, .ref u5, .ref u6])
    have sC := (sB.trans s6).trans t7
    have b := hh1.same sC
    have nL : ¬ L = h := (ne_of_none (hh1.same (sB.trans s6)).1 hL).symm
    refine ⟨_, rfl, h, d, ds, _, 5, rfl, b.1, b.2, by omega, by omega, fun q q0 q1 => ?_⟩
    have gF := (g1.trans sC.go).trans b.go
    have eL := b.go.out L _ nL (upd_same (a := L) (o := .lst [.ref u1, .ref u2, .ref u4, .ref u5, .ref u6]))
    have rw5 := row gF.tups
    rcases (show q = 0 ∨ q = 1 ∨ q = 2 ∨ q = 3 ∨ q = 4 by omega) with rfl | rfl | rfl | rfl | rfl
    · refine ⟨L, _, _, .ref u1, rfl, rfl, SqL.of eL, at_of (j := 0) rfl rfl, ?_⟩
      exact k _ _ _ (.list _) gF b.next (.lst nu1 (b.go.out u1 _ nu1 ((((s2.trans (t0.trans t3)).trans (s4.trans t5)).trans (s6.trans t7)) _ _ upd_same)) rw5.dn) ((sized_lst sR).more (by show 5 * (14000 + 1) ≤ 90000; decide) (by decide)) (fun w r e _ => nomatch e)
    · refine ⟨L, _, _, .ref u2, rfl, rfl, SqL.of eL, at_of (j := 1) rfl rfl, ?_⟩
      exact fin gF b.next (b.tups.seq (((t0.trans t3).trans ((s4.trans t5).trans (s6.trans t7))).seqT hu2)) (rw5.take 4).dn (by show 4 ≤ 6; decide) (fun z hz => sR z (List.mem_of_mem_take hz)) (word_no (by show 4 ≠ 5; decide))
    · refine ⟨L, _, _, .ref u4, rfl, rfl, SqL.of eL, at_of (j := 2) rfl rfl, ?_⟩
      refine fin gF b.next (b.tups.seq ((t5.trans (s6.trans t7)).seqT hu4)) (DtAll.dn (rw5.app (es := [.tuple []]) (.cons (.tup (b.tups.seq ((t3.trans ((s4.trans t5).trans (s6.trans t7))).seqT (SqT.of upd_same))) .nil) .nil))) (by show 6 ≤ 6; decide) (fun z hz => ?_) (word_no (by show 6 ≠ 5; decide))
      rcases List.mem_append.mp hz with hz | hz
      · exact sR z hz
      · rw [List.mem_singleton.mp hz]
        exact sized_tup0.more (by decide) (by decide)
    · refine ⟨L, _, _, .ref u5, rfl, rfl, SqL.of eL, at_of (j := 3) rfl rfl, ?_⟩
      refine fin (zs := [taskD D ls W Bl]) gF b.next (b.tups.seq ((s6.trans t7).seqT (SqT.of upd_same))) (.cons (.tup (gF.tups.seq hta) rw5.dn) .nil) (by show 1 ≤ 6; decide) (fun z hz => ?_) (word_no (by show 1 ≠ 5; decide))
      rw [List.mem_singleton.mp hz]
      exact (task_sized (D := D) (by omega) (by omega) lab.2.1 l24.2 gW gB).more (by decide) (by decide)
    · refine ⟨L, _, _, .ref u6, rfl, rfl, SqL.of eL, at_of (j := 4) rfl rfl, ?_⟩
      exact fin gF b.next (b.tups.seq (t7.seqT hu6)) (rw5.drop 1).dn (by show 4 ≤ 6; decide) (fun z hz => sR z (List.mem_of_mem_drop hz)) (word_no (by show 4 ≠ 5; decide))
  refine ⟨_, rfl, _, _, rfl, rfl, _, rfl, ?_⟩
  refine ite2 (fun _ => ?_) (fun _ => ?_)
  · -- 1: another word
    refine ⟨(by show 1 ≤ sizeLine; decide), fun t ht => ⟨(by show 6 ≤ sizeLine; decide), fun L hL => ?_⟩⟩
    have t1 := same_new ht (.tup [.str "task"])
    have t2 := same_new hL (.lst [.non, .str "Task", .str "tasks", .str "", .ref t, .bl true])
    have b := (hh1.same t1).same t2
    have nL : ¬ L = h := (ne_of_none (hh1.same t1).1 hL).symm
    have rowW : DtAll K _ [.non, .str "Task", .str "tasks", .str "", .ref t, .bl true] [PyData.none, .str "Task", .str "tasks", .str "", .tuple [.str "task"], .bool true] :=
      .cons .non (.cons (.str _) (.cons (.str _) (.cons (.str _) (.cons (.tup (t2.seqT (SqT.of upd_same)) (.cons (.str _) .nil)) (.cons (.bl _) .nil)))))
    refine ⟨_, rfl, h, d, ds, _, 6, rfl, b.1, b.2, by omega, by omega, fun q q0 q1 => ?_⟩
    obtain ⟨e', he', hm, hs⟩ : ∃ e', [PyData.none, .str "Task", .str "tasks", .str "", .tuple [.str "task"], .bool true][q.toNat]? = some e' ∧ Sized 14000 14 e' ∧ SeqAt.shaped e' = true := by
      have lt : q.toNat < [PyData.none, .str "Task", .str "tasks", .str "", .tuple [.str "task"], .bool true].length := by show q.toNat < 6; omega
      refine ⟨_, List.getElem?_eq_getElem lt, ?_⟩
      have hm := List.getElem_mem lt
      generalize [PyData.none, .str "Task", .str "tasks", .str "", .tuple [.str "task"], .bool true][q.toNat] = e' at hm
      simp only [List.mem_cons, List.not_mem_nil, or_false] at hm
      rcases hm with rfl | rfl | rfl | rfl | rfl | rfl
      · exact ⟨sized_non.more (by decide) (by decide), by decide +kernel⟩
      · exact ⟨(sized_str "Task" (by decide +kernel) 5 (by decide +kernel)).more (by decide) (by decide), by decide +kernel⟩
      · exact ⟨(sized_str "tasks" (by decide +kernel) 5 (by decide +kernel)).more (by decide) (by decide), by decide +kernel⟩
      · exact ⟨(sized_str "" (by decide +kernel) 5 (by decide +kernel)).more (by decide) (by decide), by decide +kernel⟩
      · exact ⟨(sized_one (sized_str "task" (by decide +kernel) 5 (by decide +kernel))).more (by decide) (by decide), by decide +kernel⟩
      · exact ⟨(sized_bl _).more (by decide) (by decide), by decide +kernel⟩
    obtain ⟨y, hy, hyd⟩ := (rowW.stay b.tups).at he'
    refine ⟨L, _, _, y, rfl, rfl, SqL.of (by rw [upd_ne nL, upd_same]), at_of (j := q.toNat) (by omega) hy, (by show 1 ≤ sizeLine; decide), fun u1 hu1 => ?_⟩
    have t3 := same_new hu1 (.tup [y])
    have b2 := b.next.same t3
    have g2 := ((g1.trans (t1.trans t2).go).trans b.go).trans t3.go
    refine ⟨_, rfl, _, rfl, ta, _, rfl, g2.tups.seq hta, fun u2 H3 s3 hu2 => ?_⟩
    rw [show (1 : Int) = ((1 : Nat) : Int) from rfl, cut_from] at hu2
    refine ⟨u1, u2, _, _, rfl, rfl, s3.seqT (SqT.of upd_same), hu2, (by show 5 ≤ sizeLine; decide), fun u3 H4 s4 hu3 => ?_⟩
    have s5 := s3.trans s4
    have rw5 := row (g2.trans s5.go).tups
    refine fin (zs := [e'] ++ [PyData.str "task", .int D, tupI ls, sideD W, sideD Bl].drop 1) (g2.trans s5.go) (b2.same s5) hu3 (DtAll.dn (DtAll.app (.cons (hyd.stay (t3.trans s5).tups) .nil) (rw5.drop 1))) (by show 5 ≤ 6; decide) (fun z hz => ?_) (fun w r e _ => ?_)
    · rcases List.mem_append.mp hz with hz | hz
      · rw [List.mem_singleton.mp hz]
        exact hm
      · exact sR z (List.mem_of_mem_drop hz)
    · cases e
      exact hs
  refine ⟨_, rfl, _, _, rfl, rfl, _, rfl, ?_⟩
  refine ite2 (fun _ => ?_) (fun _ => ?_)
  · -- 2: another number of colours
    refine ⟨_, rfl, ta, _, _, _, rfl, rfl, ta1, at_of (j := 1) rfl rfl, _, _, rfl, rfl, _, rfl, ta, _, _, _, rfl, rfl, ta1, at_of (j := 1) rfl rfl, _, _, rfl, rfl, _, rfl, (by show 1 ≤ sizeLine; decide), fun t ht => ⟨(by show 9 ≤ sizeLine; decide), fun L hL => ?_⟩⟩
    have t1 := same_new ht (.tup [.int 2])
    have t2 := same_new hL (.lst [.int 1, .int 5, .bl true, .non, .str "2", .int (D + 1), .int (D - 1), .int (-2), .ref t])
    have b := (hh1.same t1).same t2
    have nL : ¬ L = h := (ne_of_none (hh1.same t1).1 hL).symm
    have rowW : DtAll K _ [.int 1, .int 5, .bl true, .non, .str "2", .int (D + 1), .int (D - 1), .int (-2), .ref t] [PyData.int 1, .int 5, .bool true, .none, .str "2", .int (D + 1), .int (D - 1), .int (-2), .tuple [.int 2]] :=
      .cons (.int _) (.cons (.int _) (.cons (.bl _) (.cons .non (.cons (.str _) (.cons (.int _) (.cons (.int _) (.cons (.int _) (.cons (.tup (t2.seqT (SqT.of upd_same)) (.cons (.int _) .nil)) .nil))))))))
    refine ⟨_, rfl, h, d, ds, _, 9, rfl, b.1, b.2, by omega, by omega, fun q q0 q1 => ?_⟩
    obtain ⟨e', he', hm⟩ : ∃ e', [PyData.int 1, .int 5, .bool true, .none, .str "2", .int (D + 1), .int (D - 1), .int (-2), .tuple [.int 2]][q.toNat]? = some e' ∧ Sized 14000 14 e' := by
      have lt : q.toNat < [PyData.int 1, .int 5, .bool true, .none, .str "2", .int (D + 1), .int (D - 1), .int (-2), .tuple [.int 2]].length := by show q.toNat < 9; omega
      refine ⟨_, List.getElem?_eq_getElem lt, ?_⟩
      have hm := List.getElem_mem lt
      generalize [PyData.int 1, .int 5, .bool true, .none, .str "2", .int (D + 1), .int (D - 1), .int (-2), .tuple [.int 2]][q.toNat] = e' at hm
      simp only [List.mem_cons, List.not_mem_nil, or_false] at hm
      rcases hm with rfl | rfl | rfl | rfl | rfl | rfl | rfl | rfl | rfl
      · exact (small_int _ (by decide) (by decide)).more (by decide) (by decide)
      · exact (small_int _ (by decide) (by decide)).more (by decide) (by decide)
      · exact (sized_bl _).more (by decide) (by decide)
      · exact sized_non.more (by decide) (by decide)
      · exact (sized_str "2" (by decide +kernel) 5 (by decide +kernel)).more (by decide) (by decide)
      · exact (small_int _ (by omega) (by omega)).more (by decide) (by decide)
      · exact (small_int _ (by omega) (by omega)).more (by decide) (by decide)
      · exact (small_int _ (by decide) (by decide)).more (by decide) (by decide)
      · exact (sized_one (small_int 2 (by decide) (by decide))).more (by decide) (by decide)
    obtain ⟨y, hy, hyd⟩ := (rowW.stay b.tups).at he'
    refine ⟨L, _, _, y, rfl, rfl, SqL.of (by rw [upd_ne nL, upd_same]), at_of (j := q.toNat) (by omega) hy, ?_⟩
    have g2 := (g1.trans (t1.trans t2).go).trans b.go
    have ta2 := g2.tups.seq hta
    refine ⟨_, rfl, ta, _, _, _, rfl, rfl, ta2, at_of (j := 0) rfl rfl, _, rfl, (by show 2 ≤ sizeLine; decide), fun u1 hu1 => ?_⟩
    have t3 := same_new hu1 (.tup [.str "task", y])
    have b2 := b.next.same t3
    refine ⟨_, rfl, _, rfl, ta, _, rfl, t3.seqT ta2, fun u2 H3 s3 hu2 => ?_⟩
    rw [show (2 : Int) = ((2 : Nat) : Int) from rfl, cut_from] at hu2
    refine ⟨u1, u2, _, _, rfl, rfl, s3.seqT (SqT.of upd_same), hu2, (by show 5 ≤ sizeLine; decide), fun u3 H4 s4 hu3 => ?_⟩
    have s5 := t3.trans (s3.trans s4)
    have rw5 := row (g2.trans s5.go).tups
    refine fin (zs := [PyData.str "task", e'] ++ [PyData.str "task", .int D, tupI ls, sideD W, sideD Bl].drop 2) (g2.trans s5.go) (b.next.same s5) hu3 (DtAll.dn (DtAll.app (.cons (.str _) (.cons (hyd.stay s5.tups) .nil)) (rw5.drop 2))) (by show 5 ≤ 6; decide) (fun z hz => ?_) (word_str (l := _))
    rcases List.mem_append.mp hz with hz | hz
    · rcases List.mem_cons.mp hz with rfl | hz
      · exact p1.more (by decide) (by decide)
      · rw [List.mem_singleton.mp hz]
        exact hm
    · exact sR z (List.mem_of_mem_drop hz)
  refine ⟨_, rfl, _, _, rfl, rfl, _, rfl, ?_⟩
  refine ite2 (fun _ => ?_) (fun _ => ?_)
  · -- 3, 4: the labels
    refine ⟨_, rfl, _, rfl, ta, _, rfl, ta1, fun q4 H4 s4 hq4 => ?_⟩
    rw [show (2 : Int) = ((2 : Nat) : Int) from rfl, cut_to] at hq4
    have gA := g1.trans s4.go
    refine ⟨_, rfl, _, rfl, h, d, ds, _, _, D, ls, W, Bl, rfl, hh1.same s4, .tup (gA.tups.seq hta) (row gA.tups), by omega, l24.2, lab.2.1, fun y H5 n5 e' g5 hh5 hyd se => ?_⟩
    refine ⟨(by show 1 ≤ sizeLine; decide), fun t ht => ?_⟩
    have t1 := same_new ht (.tup [y])
    refine ⟨q4, t, _, _, rfl, rfl, t1.seqT (g5.seqT hq4), SqT.of upd_same, le_sz (by rw [List.length_take]; show min _ 5 + 1 ≤ _; omega), fun q5 H6 s6 hq5 => ?_⟩
    have gB5 := (gA.trans g5).trans (t1.trans s6).go
    refine ⟨_, rfl, _, rfl, ta, _, rfl, gB5.tups.seq hta, fun q6 H7 s7 hq6 => ?_⟩
    rw [show (3 : Int) = ((3 : Nat) : Int) from rfl, cut_from] at hq6
    refine ⟨q5, q6, _, _, rfl, rfl, s7.seqT hq5, hq6, (by show 5 ≤ sizeLine; decide), fun q7 H8 s8 hq7 => ?_⟩
    have gC := gB5.trans (s7.trans s8).go
    have ts := (t1.trans s6).trans (s7.trans s8)
    have rw5 := row gC.tups
    refine fin (zs := [PyData.str "task", .int D] ++ [e'] ++ [sideD W, sideD Bl]) gC (hh5.same ts) hq7 (DnAll.app (DnAll.app (rw5.take 2).dn (.cons (hyd.stay ts.go) .nil)) (rw5.drop 3).dn) (by show 5 ≤ 6; decide) (fun z hz => ?_) (word_str (l := _))
    simp only [List.cons_append, List.nil_append, List.mem_cons, List.not_mem_nil, or_false] at hz
    rcases hz with rfl | rfl | rfl | rfl | rfl
    · exact sR _ (by simp)
    · exact sR _ (by simp)
    · exact se.more (by decide) (by decide)
    · exact sR _ (by simp)
    · exact sR _ (by simp)
  refine ⟨_, rfl, _, _, rfl, rfl, _, rfl, ?_⟩
  refine ite2 (fun _ => ?_) (fun _ => ?_)
  · -- 5 to 7: the white side
    refine ⟨_, rfl, _, rfl, ta, _, rfl, ta1, fun q4 H4 s4 hq4 => ?_⟩
    rw [show (3 : Int) = ((3 : Nat) : Int) from rfl, cut_to] at hq4
    have gA := g1.trans s4.go
    have ta4 := gA.tups.seq hta
    refine ⟨_, rfl, _, rfl, ta, _, _, _, rfl, rfl, ta4, at_of (j := 3) rfl rfl, _, rfl, ta, _, _, _, rfl, rfl, ta4, at_of (j := 2) rfl rfl, h, d, ds, _, wv, la, W, ls, rfl, hh1.same s4, hW.stay gA.tups, gA.tups.seq hla, gW, by omega, l24.2, lab.2.1, fun y H5 n5 e' g5 hh5 hyd se => ?_⟩
    refine ⟨(by show 1 ≤ sizeLine; decide), fun t ht => ?_⟩
    have t1 := same_new ht (.tup [y])
    refine ⟨q4, t, _, _, rfl, rfl, t1.seqT (g5.seqT hq4), SqT.of upd_same, le_sz (by rw [List.length_take]; show min _ 5 + 1 ≤ _; omega), fun q5 H6 s6 hq5 => ?_⟩
    have gB5 := (gA.trans g5).trans (t1.trans s6).go
    refine ⟨_, rfl, _, rfl, ta, _, rfl, gB5.tups.seq hta, fun q6 H7 s7 hq6 => ?_⟩
    rw [show (4 : Int) = ((4 : Nat) : Int) from rfl, cut_from] at hq6
    refine ⟨q5, q6, _, _, rfl, rfl, s7.seqT hq5, hq6, (by show 5 ≤ sizeLine; decide), fun q7 H8 s8 hq7 => ?_⟩
    have gC := gB5.trans (s7.trans s8).go
    have ts := (t1.trans s6).trans (s7.trans s8)
    have rw5 := row gC.tups
    refine fin (zs := [PyData.str "task", .int D, tupI ls] ++ [e'] ++ [sideD Bl]) gC (hh5.same ts) hq7 (DnAll.app (DnAll.app (rw5.take 3).dn (.cons (hyd.stay ts.go) .nil)) (rw5.drop 4).dn) (by show 5 ≤ 6; decide) (fun z hz => ?_) (word_str (l := _))
    simp only [List.cons_append, List.nil_append, List.mem_cons, List.not_mem_nil, or_false] at hz
    rcases hz with rfl | rfl | rfl | rfl | rfl
    · exact sR _ (by simp)
    · exact sR _ (by simp)
    · exact sR _ (by simp)
    · exact se
    · exact sR _ (by simp)
  refine ⟨_, rfl, _, _, rfl, rfl, _, rfl, ?_⟩
  refine ite2 (fun _ => ?_) (fun _ => ?_)
  · -- 8 to 10: the black side
    refine ⟨_, rfl, _, rfl, ta, _, rfl, ta1, fun q4 H4 s4 hq4 => ?_⟩
    rw [show (4 : Int) = ((4 : Nat) : Int) from rfl, cut_to] at hq4
    have gA := g1.trans s4.go
    have ta4 := gA.tups.seq hta
    refine ⟨_, rfl, _, rfl, ta, _, _, _, rfl, rfl, ta4, at_of (j := 4) rfl rfl, _, rfl, ta, _, _, _, rfl, rfl, ta4, at_of (j := 2) rfl rfl, h, d, ds, _, bv, la, Bl, ls, rfl, hh1.same s4, hB.stay gA.tups, gA.tups.seq hla, gB, by omega, l24.2, lab.2.1, fun y H5 n5 e' g5 hh5 hyd se => ?_⟩
    refine ⟨(by show 1 ≤ sizeLine; decide), fun t ht => ?_⟩
    have t1 := same_new ht (.tup [y])
    refine ⟨q4, t, _, _, rfl, rfl, t1.seqT (g5.seqT hq4), SqT.of upd_same, le_sz (by rw [List.length_take]; show min _ 5 + 1 ≤ _; omega), fun q5 H6 s6 hq5 => ?_⟩
    have gC := (gA.trans g5).trans (t1.trans s6).go
    have ts := t1.trans s6
    have rw5 := row gC.tups
    refine fin (zs := [PyData.str "task", .int D, tupI ls, sideD W] ++ [e']) gC (hh5.same ts) hq5 (DnAll.app (rw5.take 4).dn (.cons (hyd.stay ts.go) .nil)) (by show 5 ≤ 6; decide) (fun z hz => ?_) (word_str (l := _))
    simp only [List.cons_append, List.nil_append, List.mem_cons, List.not_mem_nil, or_false] at hz
    rcases hz with rfl | rfl | rfl | rfl | rfl
    · exact sR _ (by simp)
    · exact sR _ (by simp)
    · exact sR _ (by simp)
    · exact sR _ (by simp)
    · exact se
  · exact ⟨_, rfl, h, d, ds, _, rfl, hh1, fun v H2 n2 e g2 hh2 dn se nf => k v H2 n2 e (g1.trans g2) hh2 dn (se.more (by decide) (by decide)) (fun w r er hr => by
      have := nf _ er
      rw [List.length_cons, hr] at this
      omega)⟩
end
theorem _root_.L2H.RoomH.units {k : Nat} {A : Around} (r : L2H.RoomH k A) : A.units + 64 < cLine := by have := r.un; omega
section
variable {P : Program} {w : World} {K : PySem.W.Frag} {mg : Str → Option Value} {base : Heap}
def isIntD : PyData → Bool
  | .int _ => true
  | _ => false
def spInteger (K : PySem.W.Frag) : Sp := fun vs H Q _ => ∃ (M : Addr → Prop) (x : V) (d : PyData), vs = [x] ∧ Dn M K H x d ∧ Q (.bl (isIntD d)) H
theorem ok_integer {f : Addr} {fd : FuncData} (B : Blt mg) (F : Fun K "_law_integer" "_law_integer" s_law_integer f fd) : FnOk P w K mg base CX0 1 f fd ["value"] (spInteger K) := by
  have sc : FnScope ["value"] ["value"] (defScope s_law_integer) := ⟨rfl, rfl, rfl, by decide +kernel, rfl, by decide +kernel, by decide +kernel⟩
  refine F.ok sc (fun vs H Q E h => ?_) (fun cdv A outer s H vs Q E hr h => ?_)
  · obtain ⟨_, _, _, rfl, _⟩ := h
    rfl
  obtain ⟨M, x, d, rfl, hd, k⟩ := h
  refine ⟨_, (pss_one (ps_ret (pe_and (pe_callB call_isi (by rfl) B.isinstance (by decide +kernel) (pa_cons (pv 0) (pa_cons (pe_bltn (v := V.ty "int") (u := Value.type "int") (by rfl) B.int (by decide +kernel) rfl) pa_nil))) (pe_one (pe_not (pe_callB call_isi (by rfl) B.isinstance (by decide +kernel) (pa_cons (pv 0) (pa_cons (pe_bltn (v := V.ty "bool") (u := Value.type "bool") (by rfl) B.bool (by decide +kernel) rfl) pa_nil)))))))), ?_⟩
  refine ⟨_, rfl, x, _, _, _, isInt2 d, rfl, ClsV.ty _, hd.ty, kit_ty (kit_int d), ?_⟩
  refine ⟨_, rfl, ?_⟩
  cases hi2 : isInt2 d with
  | false =>
    refine iteF ?_
    have e : isIntD d = false := by cases d <;> first | rfl | cases hi2
    rw [e] at k
    exact k
  | true =>
    refine iteT ?_
    refine ⟨_, rfl, x, _, _, _, isBool d, rfl, ClsV.ty _, hd.ty, kit_ty (kit_bool d), _, rfl, ?_⟩
    have e : isIntD d = !isBool d := by cases d <;> first | rfl | (simp [isInt2] at hi2; done)
    rw [e] at k
    exact k
theorem ho_integer {f : Addr} {fd : FuncData} (B : Blt mg) (F : Fun K "_law_integer" "_law_integer" s_law_integer f fd) : FnE P w K mg base 1 f fd ["value"] (fun _ => spInteger K) := by
  have sc : FnScope ["value"] ["value"] (defScope s_law_integer) := ⟨rfl, rfl, rfl, by decide +kernel, rfl, by decide +kernel, by decide +kernel⟩
  refine FnE.by F sc (fun p vs H Q E h => ?_) (fun cdv A outer s H vs Q E p hot hr h => ?_)
  · obtain ⟨_, _, _, rfl, _⟩ := h
    rfl
  obtain ⟨M, x, d, rfl, hd, k⟩ := h
  refine ⟨_, (pss_one (ps_ret (pe_and (pe_callB call_isi (by rfl) B.isinstance (by decide +kernel) (pa_cons (pv 0) (pa_cons (pe_bltn (v := V.ty "int") (u := Value.type "int") (by rfl) B.int (by decide +kernel) rfl) pa_nil))) (pe_one (pe_not (pe_callB call_isi (by rfl) B.isinstance (by decide +kernel) (pa_cons (pv 0) (pa_cons (pe_bltn (v := V.ty "bool") (u := Value.type "bool") (by rfl) B.bool (by decide +kernel) rfl) pa_nil)))))))), ?_⟩
  refine ⟨_, rfl, x, _, _, _, isInt2 d, rfl, ClsV.ty _, hd.ty, kit_ty (kit_int d), ?_⟩
  refine ⟨_, rfl, ?_⟩
  cases hi2 : isInt2 d with
  | false =>
    refine iteF ?_
    have e : isIntD d = false := by cases d <;> first | rfl | cases hi2
    rw [e] at k
    exact k
  | true =>
    refine iteT ?_
    refine ⟨_, rfl, x, _, _, _, isBool d, rfl, ClsV.ty _, hd.ty, kit_ty (kit_bool d), _, rfl, ?_⟩
    have e : isIntD d = !isBool d := by cases d <;> first | rfl | (simp [isInt2] at hi2; done)
    rw [e] at k
    exact k
def spRR (K : PySem.W.Frag) : Sp := fun vs H Q _ => ∃ (M : Addr → Prop) (x : V) (d : PyData) (la : Addr) (ls : List Int), vs = [x, .ref la] ∧ Dn M K H x d ∧ d.bulk ≤ 1000000 ∧ SqT K H la (ls.map V.int) ∧ ls.length ≤ 1000 ∧ Q (.bl (areRows ls d)) H
theorem ok_rr {f : Addr} {fd : FuncData} (B : Blt mg) (g_law_integer : Has P w K mg base CX0 1 "_law_integer" ["value"] (spInteger K)) (F : Fun K "_law_rows_right" "_law_rows_right" s_law_rows_right f fd) : FnOk P w K mg base CX0 2 f fd ["rows", "labels"] (spRR K) := by
  have sc : FnScope ["rows", "labels", "last", "row", "at"] ["rows", "labels"] (defScope s_law_rows_right) := ⟨rfl, rfl, rfl, by decide +kernel, rfl, by decide +kernel, by decide +kernel⟩
  refine F.ok sc (fun vs H Q E h => ?_) (fun cdv A outer s H vs Q E hr h => ?_)
  · obtain ⟨_, _, _, _, _, rfl, _⟩ := h
    rfl
  obtain ⟨M, x, d, la, ls, rfl, hd, hb0, hla, hz, k⟩ := h
  refine ⟨_, (pss_cons (ps_if (pt_not (pt_val (pe_callB call_isi (by rfl) B.isinstance (by decide +kernel) (pa_cons (pv 0) (pa_cons (pe_bltn (v := V.ty "tuple") (u := Value.type "tuple") (by rfl) B.tuple (by decide +kernel) rfl) pa_nil)))))
      (pss_one (ps_ret pe_bl))
      pss_nil)
    (pss_cons (ps_set (i := 2) sc.nd rfl (Or.inl rfl) pe_non)
    (pss_cons (ps_for PassesOwn.never rfl (pi_tup (pv 0)) (pg_name (i := 3) sc.nd rfl (Or.inl rfl))
      (pss_cons (ps_if (PW.pt (pw_or (pt_not (pt_val (pe_callB call_isi (by rfl) B.isinstance (by decide +kernel) (pa_cons (pv 3) (pa_cons (pe_bltn (v := V.ty "tuple") (u := Value.type "tuple") (by rfl) B.tuple (by decide +kernel) rfl) pa_nil))))) (pw_or1 (pt_cmpR op_nei (pe_callB call_len_seq (by rfl) B.len (by decide +kernel) (pa_cons (pv 3) pa_nil)) (pe_callB call_len_seq (by rfl) B.len (by decide +kernel) (pa_cons (pv 1) pa_nil)) (nomark _)))))
        (pss_one (ps_ret pe_bl))
        pss_nil)
      (pss_cons (ps_for PassesOwn.never rfl (pi_range1 (by rfl) B.range (pa_cons (pe_callB call_len_seq (by rfl) B.len (by decide +kernel) (pa_cons (pv 3) pa_nil)) pa_nil)) (pg_name (i := 4) sc.nd rfl (Or.inl rfl))
        (pss_one (ps_if (PW.pt (pw_or (pt_not (pt_val (pc g_law_integer hr (pa_cons (pe_ix ix_tup (pv 3) (pv 4) (fun _ _ => rfl)) pa_nil)))) (pw_or (pt_cmpR op_lt (pe_ix ix_tup (pv 3) (pv 4) (fun _ _ => rfl)) pe_int (nomark _)) (pw_or1 (pt_cmpR op_ge (pe_ix ix_tup (pv 3) (pv 4) (fun _ _ => rfl)) (pe_ix ix_tup (pv 1) (pv 4) (fun _ _ => rfl)) (nomark _))))))
          (pss_one (ps_ret pe_bl))
          pss_nil)))
      (pss_cons (ps_if (PW.pt (pw_and (pt_cmpR op_notN (pv 2) pe_non (nomark _)) (pw_and1 (pt_not (pt_cmpR (op_ltR hr.units) (pv 2) (pv 3) (nomark _))))))
        (pss_one (ps_ret pe_bl))
        pss_nil)
      (pss_one (ps_set (i := 2) sc.nd rfl (Or.inl rfl) (pv 3)))))))
    (pss_one (ps_ret pe_bl))))), ?_⟩
  refine ⟨_, rfl, x, _, _, _, isTup d, rfl, ClsV.ty _, hd.ty, kit_ty (kit_tup d), _, rfl, ?_⟩
  cases ht : isTup d with
  | false =>
    refine iteT ?_
    have e : areRows ls d = false := by cases d <;> first | rfl | cases ht
    rw [e] at k
    exact k
  | true =>
    refine iteF ?_
    obtain ⟨ds, rfl⟩ := isTup_of ht
    obtain ⟨a, xs, rfl, ha, hx⟩ := dn_tup hd
    have no : ∀ {i : Nat}, i < ds.length → rowAt ls ds i = false → Q (.bl false) H := fun hi hb => by
      rw [rows_bad hi hb] at k
      exact k
    refine ⟨_, rfl, a, rfl, ⟨_, ha⟩, for_tup (K := K) (a := a) (xs := xs) (fun i σ H' => H = H' ∧ ∃ (lv : V) (rv av : Option V), σ = [some (.ref a), some (.ref la), some lv, rv, av] ∧ (i = 0 → lv = .non) ∧ (0 < i → xs[i - 1]? = some lv) ∧ ∀ j, j < i → rowAt ls ds j = true)
      ⟨rfl, .non, none, none, rfl, fun _ => rfl, fun z => absurd z (Nat.lt_irrefl 0), fun j hj => absurd hj (Nat.not_lt_zero j)⟩ (fun i σ H' _ z => by rw [← z.1]; exact ha) ?_ ?_⟩
    · rintro i y σ H' hy ⟨rfl, lv, rv, av, rfl, l0, l1, hok⟩
      obtain ⟨dy, hdy, hyd⟩ := hx.of hy
      have il : i < ds.length := (List.getElem?_eq_some_iff.mp hdy).1
      have gd : ds.getD i .none = dy := getD_of hdy
      refine ⟨_, rfl, y, _, _, _, isTup dy, rfl, ClsV.ty _, hyd.ty, kit_ty (kit_tup dy), _, rfl, ?_⟩
      cases hty : isTup dy with
      | false =>
        refine iteT ?_
        refine iteT ?_
        refine no il ?_
        unfold rowAt
        rw [gd]
        cases dy <;> first | rfl | cases hty
      | true =>
        refine iteF ?_
        obtain ⟨es, rfl⟩ := isTup_of hty
        obtain ⟨b, ys, rfl, hb, hys⟩ := dn_tup hyd
        have eR : isRow ls (.tuple es) = (decide (es.length = ls.length) && (es.zip ls).all fun p => isNum p.1 0 (p.2 - 1)) := rfl
        refine ⟨_, rfl, b, _, rfl, .inr hb, _, rfl, la, _, rfl, .inr hla, _, _, rfl, rfl, _, rfl, ?_⟩
        by_cases hl : es.length = ls.length
        · have e2 : ((ys.length : Nat) : Int) = (((ls.map V.int).length : Nat) : Int) := by rw [hys.len, List.length_map, hl]
          rw [decide_eq_true e2]
          refine iteF ?_
          rw [hl, decide_eq_true rfl, Bool.true_and] at eR
          have bad : ∀ {j : Nat} {dz : PyData} {m : Int}, es[j]? = some dz → ls[j]? = some m → isNum dz 0 (m - 1) = false → Q (.bl false) H := fun {j dz m} h1 h2 h3 => by
            refine no il ?_
            unfold rowAt
            rw [gd, eR]
            have : ((es.zip ls).all fun p => isNum p.1 0 (p.2 - 1)) = false := by
              rw [List.all_eq_false]
              exact ⟨(dz, m), List.mem_of_getElem? (by rw [List.getElem?_zip_eq_some]; exact ⟨h1, h2⟩ : (es.zip ls)[j]? = some (dz, m)), by rw [h3]; decide⟩
            rw [this]
            rfl
          have yl : ys.length = es.length := hys.len
          have few := bulk_len (bulk_mem hb0 (List.mem_of_getElem? hdy))
          refine ⟨_, rfl, b, _, rfl, .inr hb, ((ys.length : Nat) : Int), rfl, by omega, by omega, for_range (lo := 0) (n := ((ys.length : Nat) : Int).toNat) (fun j σ H' => H = H' ∧ ∃ av : Option V, σ = [some (.ref a), some (.ref la), some lv, some (.ref b), av] ∧ ∀ z, z < j → ∀ dz m, es[z]? = some dz → ls[z]? = some m → isNum dz 0 (m - 1) = true)
            ⟨rfl, av, rfl, fun z hz => absurd hz (Nat.not_lt_zero z)⟩ ?_ ?_⟩
          · rintro j σ H' hj ⟨rfl, av, rfl, hall⟩
            have jl : j < es.length := by omega
            have jl2 : j < ls.length := by omega
            obtain ⟨v, hv, hvd⟩ := hys.at (show es[j]? = some es[j] by simp [jl])
            have hm : ls[j]? = some ls[j] := by simp [jl2]
            have atv : atI ys (0 + (j : Int)) = some v := at_of (j := j) (by omega) hv
            refine ⟨_, rfl, _, rfl, b, _, _, v, rfl, rfl, hb, atv, M, v, es[j], rfl, hvd, _, rfl, ?_⟩
            cases hi2 : isIntD es[j] with
            | false =>
              refine iteT ?_
              refine iteT ?_
              exact bad (show es[j]? = some es[j] by simp [jl]) hm (by cases he : es[j] <;> first | rfl | (rw [he] at hi2; cases hi2))
            | true =>
              refine iteF ?_
              obtain ⟨n, hn⟩ : ∃ n, es[j] = .int n := by cases he : es[j] <;> first | exact ⟨_, rfl⟩ | (rw [he] at hi2; cases hi2)
              rw [hn] at hvd
              obtain rfl := dn_int hvd
              have eN : isNum es[j] 0 (ls[j] - 1) = (decide (0 ≤ n) && decide (n ≤ ls[j] - 1)) := by rw [hn]; rfl
              refine ⟨_, rfl, _, rfl, b, _, _, _, rfl, rfl, hb, atv, _, _, rfl, rfl, _, rfl, ?_⟩
              refine ite2 (fun c => ?_) (fun c => ?_)
              · refine iteT ?_
                refine bad (show es[j]? = some es[j] by simp [jl]) hm ?_
                rw [eN, decide_eq_false (by have := dec_t c; omega)]
                rfl
              · have c1 := dec_f c
                refine ⟨_, rfl, _, rfl, b, _, _, _, rfl, rfl, hb, atv, _, rfl, _, rfl, la, _, _, .int ls[j], rfl, rfl, hla, at_of (j := j) (by omega) (by rw [List.getElem?_map, hm]; rfl), _, _, rfl, rfl, _, rfl, ?_⟩
                refine ite2 (fun c => ?_) (fun c => ?_)
                · refine bad (show es[j]? = some es[j] by simp [jl]) hm ?_
                  rw [eN, decide_eq_false (show ¬ n ≤ ls[j] - 1 by have := dec_t c; omega), Bool.and_false]
                · have c2 := dec_f c
                  refine ⟨rfl, _, rfl, fun z hz' dz m h1 h2 => ?_⟩
                  by_cases ez : z = j
                  · subst ez
                    rw [hm] at h2
                    cases h2
                    have : es[z]? = some es[z] := by simp [jl]
                    rw [this] at h1
                    cases h1
                    rw [eN, decide_eq_true (by omega), decide_eq_true (by omega)]
                    rfl
                  · exact hall z (by omega) dz m h1 h2
          · rintro σ H' ⟨rfl, av, rfl, hall⟩
            have right : isRow ls (.tuple es) = true := by
              rw [eR, List.all_eq_true]
              rintro ⟨dz, m⟩ hp
              obtain ⟨z, hz1⟩ := List.getElem?_of_mem hp
              rw [List.getElem?_zip_eq_some] at hz1
              have zl : z < es.length := (List.getElem?_eq_some_iff.mp hz1.1).1
              exact hall z (by omega) dz m hz1.1 hz1.2
            have eA : rowAt ls ds i = (decide (i = 0) || decide (intsD (ds.getD (i - 1) .none) < intsD (.tuple es))) := by
              unfold rowAt
              rw [gd, right, Bool.true_and]
            refine ⟨_, rfl, rfl, _, rfl, ?_⟩
            by_cases i0 : i = 0
            · rw [l0 i0, decide_eq_true rfl]
              refine iteF ?_
              refine ⟨_, rfl, rfl, _, _, _, rfl, fun z => by omega, fun _ => by simpa using hy, fun j hj => ?_⟩
              by_cases ej : j = i
              · rw [ej, eA, decide_eq_true i0]
                rfl
              · exact hok j (by omega)
            · have prev := hok (i - 1) (by omega)
              have il2 : i - 1 < ds.length := by omega
              have pr : isRow ls (ds.getD (i - 1) .none) = true := by
                unfold rowAt at prev
                rw [Bool.and_eq_true] at prev
                exact prev.1
              have hlv := l1 (by omega)
              obtain ⟨d1, hd1, hd1v⟩ := hx.of hlv
              rw [getD_of hd1] at pr eA
              obtain ⟨b1, rfl, hb1⟩ := row_val hd1v pr
              obtain ⟨b2, eb2, hb2⟩ := row_val hyd right
              cases eb2
              rw [decide_eq_false (show ¬ V.ref b1 = V.non from nofun)]
              refine iteT ?_
              refine ⟨_, rfl, _, rfl, b1, b, _, _, rfl, rfl, hb1, hb2, _, rfl, ?_⟩
              rw [decide_eq_false i0, Bool.false_or] at eA
              cases hlt : decide (intsD d1 < intsD (.tuple es)) with
              | true =>
                refine iteF ?_
                refine ⟨_, rfl, rfl, _, _, _, rfl, fun z => by omega, fun _ => by simpa using hy, fun j hj => ?_⟩
                by_cases ej : j = i
                · rw [ej, eA, hlt]
                · exact hok j (by omega)
              | false =>
                refine iteT ?_
                exact no il (by rw [eA, hlt])
        · have e2 : ¬ ((ys.length : Nat) : Int) = (((ls.map V.int).length : Nat) : Int) := by rw [hys.len, List.length_map]; omega
          rw [decide_eq_false e2]
          refine iteT ?_
          refine no il ?_
          unfold rowAt
          rw [gd, eR, decide_eq_false hl]
          rfl
    · rintro σ H' ⟨rfl, lv, rv, av, rfl, l0, l1, hok⟩
      have e : areRows ls (.tuple ds) = true := by
        rw [rows_all, List.all_eq_true]
        exact fun j hj => hok j (by have := List.mem_range.mp hj; have := hx.len; omega)
      rw [e] at k
      exact k
theorem ho_rr {f : Addr} {fd : FuncData} (B : Blt mg) (h_law_integer : HasE P w K mg base 1 "_law_integer" ["value"] (fun _ => spInteger K)) (F : Fun K "_law_rows_right" "_law_rows_right" s_law_rows_right f fd) : FnE P w K mg base 2 f fd ["rows", "labels"] (fun _ => spRR K) := by
  have sc : FnScope ["rows", "labels", "last", "row", "at"] ["rows", "labels"] (defScope s_law_rows_right) := ⟨rfl, rfl, rfl, by decide +kernel, rfl, by decide +kernel, by decide +kernel⟩
  refine FnE.by F sc (fun p vs H Q E h => ?_) (fun cdv A outer s H vs Q E p hot hr h => ?_)
  · obtain ⟨_, _, _, _, _, rfl, _⟩ := h
    rfl
  obtain ⟨M, x, d, la, ls, rfl, hd, hb0, hla, hz, k⟩ := h
  refine ⟨_, (pss_cons (ps_if (pt_not (pt_val (pe_callB call_isi (by rfl) B.isinstance (by decide +kernel) (pa_cons (pv 0) (pa_cons (pe_bltn (v := V.ty "tuple") (u := Value.type "tuple") (by rfl) B.tuple (by decide +kernel) rfl) pa_nil)))))
      (pss_one (ps_ret pe_bl))
      pss_nil)
    (pss_cons (ps_set (i := 2) sc.nd rfl (Or.inl rfl) pe_non)
    (pss_cons (L2H.ps_forH PassesOwn.never (hotC_cx hot) (pi_tupH (pv 0)) (pg_name (i := 3) sc.nd rfl (Or.inl rfl))
      (pss_cons (ps_if (PW.pt (pw_or (pt_not (pt_val (pe_callB call_isi (by rfl) B.isinstance (by decide +kernel) (pa_cons (pv 3) (pa_cons (pe_bltn (v := V.ty "tuple") (u := Value.type "tuple") (by rfl) B.tuple (by decide +kernel) rfl) pa_nil))))) (pw_or1 (pt_cmpR op_nei (pe_callB call_len_seq (by rfl) B.len (by decide +kernel) (pa_cons (pv 3) pa_nil)) (pe_callB call_len_seq (by rfl) B.len (by decide +kernel) (pa_cons (pv 1) pa_nil)) (nomark _)))))
        (pss_one (ps_ret pe_bl))
        pss_nil)
      (pss_cons (L2H.ps_forH PassesOwn.never (hotC_cx hot) (L2H.pi_range1H (by rfl) B.range (pa_cons (pe_callB call_len_seq (by rfl) B.len (by decide +kernel) (pa_cons (pv 3) pa_nil)) pa_nil)) (pg_name (i := 4) sc.nd rfl (Or.inl rfl))
        (pss_one (ps_if (PW.pt (pw_or (pt_not (pt_val (pcH h_law_integer hr (hot1_deeper hot) List.mem_cons_self (pa_cons (pe_ix ix_tup (pv 3) (pv 4) (fun _ _ => rfl)) pa_nil)))) (pw_or (pt_cmpR op_lt (pe_ix ix_tup (pv 3) (pv 4) (fun _ _ => rfl)) pe_int (nomark _)) (pw_or1 (pt_cmpR op_ge (pe_ix ix_tup (pv 3) (pv 4) (fun _ _ => rfl)) (pe_ix ix_tup (pv 1) (pv 4) (fun _ _ => rfl)) (nomark _))))))
          (pss_one (ps_ret pe_bl))
          pss_nil)))
      (pss_cons (ps_if (PW.pt (pw_and (pt_cmpR op_notN (pv 2) pe_non (nomark _)) (pw_and1 (pt_not (pt_cmpR (op_ltR hr.units) (pv 2) (pv 3) (nomark _))))))
        (pss_one (ps_ret pe_bl))
        pss_nil)
      (pss_one (ps_set (i := 2) sc.nd rfl (Or.inl rfl) (pv 3)))))))
    (pss_one (ps_ret pe_bl))))), ?_⟩
  refine ⟨_, rfl, x, _, _, _, isTup d, rfl, ClsV.ty _, hd.ty, kit_ty (kit_tup d), _, rfl, ?_⟩
  cases ht : isTup d with
  | false =>
    refine iteT ?_
    have e : areRows ls d = false := by cases d <;> first | rfl | cases ht
    rw [e] at k
    exact k
  | true =>
    refine iteF ?_
    obtain ⟨ds, rfl⟩ := isTup_of ht
    obtain ⟨a, xs, rfl, ha, hx⟩ := dn_tup hd
    have no : ∀ {i : Nat}, i < ds.length → rowAt ls ds i = false → Q (.bl false) H := fun hi hb => by
      rw [rows_bad hi hb] at k
      exact k
    refine ⟨_, rfl, a, rfl, ⟨_, ha⟩, for_tup (K := K) (a := a) (xs := xs) (fun i σ H' => H = H' ∧ ∃ (lv : V) (rv av : Option V), σ = [some (.ref a), some (.ref la), some lv, rv, av] ∧ (i = 0 → lv = .non) ∧ (0 < i → xs[i - 1]? = some lv) ∧ ∀ j, j < i → rowAt ls ds j = true)
      ⟨rfl, .non, none, none, rfl, fun _ => rfl, fun z => absurd z (Nat.lt_irrefl 0), fun j hj => absurd hj (Nat.not_lt_zero j)⟩ (fun i σ H' _ z => by rw [← z.1]; exact ha) ?_ ?_⟩
    · rintro i y σ H' hy ⟨rfl, lv, rv, av, rfl, l0, l1, hok⟩
      obtain ⟨dy, hdy, hyd⟩ := hx.of hy
      have il : i < ds.length := (List.getElem?_eq_some_iff.mp hdy).1
      have gd : ds.getD i .none = dy := getD_of hdy
      refine ⟨_, rfl, y, _, _, _, isTup dy, rfl, ClsV.ty _, hyd.ty, kit_ty (kit_tup dy), _, rfl, ?_⟩
      cases hty : isTup dy with
      | false =>
        refine iteT ?_
        refine iteT ?_
        refine no il ?_
        unfold rowAt
        rw [gd]
        cases dy <;> first | rfl | cases hty
      | true =>
        refine iteF ?_
        obtain ⟨es, rfl⟩ := isTup_of hty
        obtain ⟨b, ys, rfl, hb, hys⟩ := dn_tup hyd
        have eR : isRow ls (.tuple es) = (decide (es.length = ls.length) && (es.zip ls).all fun p => isNum p.1 0 (p.2 - 1)) := rfl
        refine ⟨_, rfl, b, _, rfl, .inr hb, _, rfl, la, _, rfl, .inr hla, _, _, rfl, rfl, _, rfl, ?_⟩
        by_cases hl : es.length = ls.length
        · have e2 : ((ys.length : Nat) : Int) = (((ls.map V.int).length : Nat) : Int) := by rw [hys.len, List.length_map, hl]
          rw [decide_eq_true e2]
          refine iteF ?_
          rw [hl, decide_eq_true rfl, Bool.true_and] at eR
          have bad : ∀ {j : Nat} {dz : PyData} {m : Int}, es[j]? = some dz → ls[j]? = some m → isNum dz 0 (m - 1) = false → Q (.bl false) H := fun {j dz m} h1 h2 h3 => by
            refine no il ?_
            unfold rowAt
            rw [gd, eR]
            have : ((es.zip ls).all fun p => isNum p.1 0 (p.2 - 1)) = false := by
              rw [List.all_eq_false]
              exact ⟨(dz, m), List.mem_of_getElem? (by rw [List.getElem?_zip_eq_some]; exact ⟨h1, h2⟩ : (es.zip ls)[j]? = some (dz, m)), by rw [h3]; decide⟩
            rw [this]
            rfl
          have yl : ys.length = es.length := hys.len
          have few := bulk_len (bulk_mem hb0 (List.mem_of_getElem? hdy))
          refine ⟨_, rfl, b, _, rfl, .inr hb, ((ys.length : Nat) : Int), rfl, by omega, by omega, for_range (lo := 0) (n := ((ys.length : Nat) : Int).toNat) (fun j σ H' => H = H' ∧ ∃ av : Option V, σ = [some (.ref a), some (.ref la), some lv, some (.ref b), av] ∧ ∀ z, z < j → ∀ dz m, es[z]? = some dz → ls[z]? = some m → isNum dz 0 (m - 1) = true)
            ⟨rfl, av, rfl, fun z hz => absurd hz (Nat.not_lt_zero z)⟩ ?_ ?_⟩
          · rintro j σ H' hj ⟨rfl, av, rfl, hall⟩
            have jl : j < es.length := by omega
            have jl2 : j < ls.length := by omega
            obtain ⟨v, hv, hvd⟩ := hys.at (show es[j]? = some es[j] by simp [jl])
            have hm : ls[j]? = some ls[j] := by simp [jl2]
            have atv : atI ys (0 + (j : Int)) = some v := at_of (j := j) (by omega) hv
            refine ⟨_, rfl, _, rfl, b, _, _, v, rfl, rfl, hb, atv, M, v, es[j], rfl, hvd, _, rfl, ?_⟩
            cases hi2 : isIntD es[j] with
            | false =>
              refine iteT ?_
              refine iteT ?_
              exact bad (show es[j]? = some es[j] by simp [jl]) hm (by cases he : es[j] <;> first | rfl | (rw [he] at hi2; cases hi2))
            | true =>
              refine iteF ?_
              obtain ⟨n, hn⟩ : ∃ n, es[j] = .int n := by cases he : es[j] <;> first | exact ⟨_, rfl⟩ | (rw [he] at hi2; cases hi2)
              rw [hn] at hvd
              obtain rfl := dn_int hvd
              have eN : isNum es[j] 0 (ls[j] - 1) = (decide (0 ≤ n) && decide (n ≤ ls[j] - 1)) := by rw [hn]; rfl
              refine ⟨_, rfl, _, rfl, b, _, _, _, rfl, rfl, hb, atv, _, _, rfl, rfl, _, rfl, ?_⟩
              refine ite2 (fun c => ?_) (fun c => ?_)
              · refine iteT ?_
                refine bad (show es[j]? = some es[j] by simp [jl]) hm ?_
                rw [eN, decide_eq_false (by have := dec_t c; omega)]
                rfl
              · have c1 := dec_f c
                refine ⟨_, rfl, _, rfl, b, _, _, _, rfl, rfl, hb, atv, _, rfl, _, rfl, la, _, _, .int ls[j], rfl, rfl, hla, at_of (j := j) (by omega) (by rw [List.getElem?_map, hm]; rfl), _, _, rfl, rfl, _, rfl, ?_⟩
                refine ite2 (fun c => ?_) (fun c => ?_)
                · refine bad (show es[j]? = some es[j] by simp [jl]) hm ?_
                  rw [eN, decide_eq_false (show ¬ n ≤ ls[j] - 1 by have := dec_t c; omega), Bool.and_false]
                · have c2 := dec_f c
                  refine ⟨rfl, _, rfl, fun z hz' dz m h1 h2 => ?_⟩
                  by_cases ez : z = j
                  · subst ez
                    rw [hm] at h2
                    cases h2
                    have : es[z]? = some es[z] := by simp [jl]
                    rw [this] at h1
                    cases h1
                    rw [eN, decide_eq_true (by omega), decide_eq_true (by omega)]
                    rfl
                  · exact hall z (by omega) dz m h1 h2
          · rintro σ H' ⟨rfl, av, rfl, hall⟩
            have right : isRow ls (.tuple es) = true := by
              rw [eR, List.all_eq_true]
              rintro ⟨dz, m⟩ hp
              obtain ⟨z, hz1⟩ := List.getElem?_of_mem hp
              rw [List.getElem?_zip_eq_some] at hz1
              have zl : z < es.length := (List.getElem?_eq_some_iff.mp hz1.1).1
              exact hall z (by omega) dz m hz1.1 hz1.2
            have eA : rowAt ls ds i = (decide (i = 0) || decide (intsD (ds.getD (i - 1) .none) < intsD (.tuple es))) := by
              unfold rowAt
              rw [gd, right, Bool.true_and]
            refine ⟨_, rfl, rfl, _, rfl, ?_⟩
            by_cases i0 : i = 0
            · rw [l0 i0, decide_eq_true rfl]
              refine iteF ?_
              refine ⟨_, rfl, rfl, _, _, _, rfl, fun z => by omega, fun _ => by simpa using hy, fun j hj => ?_⟩
              by_cases ej : j = i
              · rw [ej, eA, decide_eq_true i0]
                rfl
              · exact hok j (by omega)
            · have prev := hok (i - 1) (by omega)
              have il2 : i - 1 < ds.length := by omega
              have pr : isRow ls (ds.getD (i - 1) .none) = true := by
                unfold rowAt at prev
                rw [Bool.and_eq_true] at prev
                exact prev.1
              have hlv := l1 (by omega)
              obtain ⟨d1, hd1, hd1v⟩ := hx.of hlv
              rw [getD_of hd1] at pr eA
              obtain ⟨b1, rfl, hb1⟩ := row_val hd1v pr
              obtain ⟨b2, eb2, hb2⟩ := row_val hyd right
              cases eb2
              rw [decide_eq_false (show ¬ V.ref b1 = V.non from nofun)]
              refine iteT ?_
              refine ⟨_, rfl, _, rfl, b1, b, _, _, rfl, rfl, hb1, hb2, _, rfl, ?_⟩
              rw [decide_eq_false i0, Bool.false_or] at eA
              cases hlt : decide (intsD d1 < intsD (.tuple es)) with
              | true =>
                refine iteF ?_
                refine ⟨_, rfl, rfl, _, _, _, rfl, fun z => by omega, fun _ => by simpa using hy, fun j hj => ?_⟩
                by_cases ej : j = i
                · rw [ej, eA, hlt]
                · exact hok j (by omega)
              | false =>
                refine iteT ?_
                exact no il (by rw [eA, hlt])
        · have e2 : ¬ ((ys.length : Nat) : Int) = (((ls.map V.int).length : Nat) : Int) := by rw [hys.len, List.length_map]; omega
          rw [decide_eq_false e2]
          refine iteT ?_
          refine no il ?_
          unfold rowAt
          rw [gd, eR, decide_eq_false hl]
          rfl
    · rintro σ H' ⟨rfl, lv, rv, av, rfl, l0, l1, hok⟩
      have e : areRows ls (.tuple ds) = true := by
        rw [rows_all, List.all_eq_true]
        exact fun j hj => hok j (by have := List.mem_range.mp hj; have := hx.len; omega)
      rw [e] at k
      exact k
end
section
variable {P : Program} {w : World} {K : PySem.W.Frag} {mg : Str → Option Value} {base : Heap}
def isS : PyData → Bool
  | .str _ => true
  | _ => false
theorem kit_str (d : PyData) : kitB (tyD d) "str" = some (isS d) := by cases d <;> (simp only [tyD, isS]; decide +kernel)
theorem fold_bad {α : Type} {p : α → Bool} {l : List α} {i : Nat} {a : α} (h : l[i]? = some a) (b : p a = false) : l.all p = false := List.all_eq_false.mpr ⟨a, List.mem_of_getElem? h, by rw [b]; decide⟩
theorem take_all {α : Type} {p : α → Bool} {l : List α} {i : Nat} {a : α} (h : l[i]? = some a) (t : (l.take i).all p = true) (b : p a = true) : (l.take (i + 1)).all p = true := by
  rw [take_more h, List.all_append, t]
  simp [b]
def spRight (K : PySem.W.Frag) : Sp := fun vs H Q _ => ∃ (M : Addr → Prop) (x : V) (d : PyData), vs = [x] ∧ Dn M K H x d ∧ d.bulk ≤ 1000000 ∧ ∀ H', Same H H' → Q (.bl (isTask d)) H'
set_option maxHeartbeats 1000000 in
theorem ok_right {f : Addr} {fd : FuncData} (B : Blt mg) (g_law_integer : Has P w K mg base CX0 1 "_law_integer" ["value"] (spInteger K)) (g_law_rows_right : Has P w K mg base CX0 2 "_law_rows_right" ["rows", "labels"] (spRR K)) (F : Fun K "_law_right" "_law_right" s_law_right f fd) : FnOk P w K mg base CX0 3 f fd ["value"] (spRight K) := by
  have sc : FnScope ["value", "product", "many", "side", "rows"] ["value"] (defScope s_law_right) := ⟨rfl, rfl, rfl, by decide +kernel, rfl, by decide +kernel, by decide +kernel⟩
  refine F.ok sc (fun vs H Q E h => ?_) (fun cdv A outer s H vs Q E hr h => ?_)
  · obtain ⟨_, _, _, rfl, _⟩ := h
    rfl
  obtain ⟨M, x, d, rfl, hd, hb0, k⟩ := h
  refine ⟨_, (pss_cons (ps_if (PW.pt (pw_or (pt_not (pt_val (pe_callB call_isi (by rfl) B.isinstance (by decide +kernel) (pa_cons (pv 0) (pa_cons (pe_bltn (v := V.ty "tuple") (u := Value.type "tuple") (by rfl) B.tuple (by decide +kernel) rfl) pa_nil))))) (pw_or (pt_cmpR op_nei (pe_callB call_len_seq (by rfl) B.len (by decide +kernel) (pa_cons (pv 0) pa_nil)) pe_int (nomark _)) (pw_or (pt_not (pt_val (pe_callB call_isi (by rfl) B.isinstance (by decide +kernel) (pa_cons (pe_ix ix_tup (pv 0) pe_int (fun _ _ => rfl)) (pa_cons (pe_bltn (v := V.ty "str") (u := Value.type "str") (by rfl) B.str (by decide +kernel) rfl) pa_nil))))) (pw_or1 (pt_cmpR op_nes (pe_ix ix_tup (pv 0) pe_int (fun _ _ => rfl)) pe_str (nomark _)))))))
      (pss_one (ps_ret pe_bl))
      pss_nil)
    (pss_cons (ps_if (PW.pt (pw_or (pt_not (pt_val (pc g_law_integer hr (pa_cons (pe_ix ix_tup (pv 0) pe_int (fun _ _ => rfl)) pa_nil)))) (pw_or (pt_cmpR op_lt (pe_ix ix_tup (pv 0) pe_int (fun _ _ => rfl)) pe_int (nomark _)) (pw_or1 (pt_cmpR op_gt (pe_ix ix_tup (pv 0) pe_int (fun _ _ => rfl)) pe_int (nomark _))))))
      (pss_one (ps_ret pe_bl))
      pss_nil)
    (pss_cons (ps_if (PW.pt (pw_or (pt_not (pt_val (pe_callB call_isi (by rfl) B.isinstance (by decide +kernel) (pa_cons (pe_ix ix_tup (pv 0) pe_int (fun _ _ => rfl)) (pa_cons (pe_bltn (v := V.ty "tuple") (u := Value.type "tuple") (by rfl) B.tuple (by decide +kernel) rfl) pa_nil))))) (pw_or1 (pt_cmpR op_nei (pe_callB call_len_seq (by rfl) B.len (by decide +kernel) (pa_cons (pe_ix ix_tup (pv 0) pe_int (fun _ _ => rfl)) pa_nil)) (pe_ix ix_tup (pv 0) pe_int (fun _ _ => rfl)) (nomark _)))))
      (pss_one (ps_ret pe_bl))
      pss_nil)
    (pss_cons (ps_set (i := 1) sc.nd rfl (Or.inl rfl) pe_int)
    (pss_cons (ps_for PassesOwn.never rfl (pi_tup (pe_ix ix_tup (pv 0) pe_int (fun _ _ => rfl))) (pg_name (i := 2) sc.nd rfl (Or.inl rfl))
      (pss_cons (ps_if (PW.pt (pw_or (pt_not (pt_val (pc g_law_integer hr (pa_cons (pv 2) pa_nil)))) (pw_or (pt_cmpR op_lt (pv 2) pe_int (nomark _)) (pw_or1 (pt_cmpR op_gt (pv 2) pe_int (nomark _))))))
        (pss_one (ps_ret pe_bl))
        pss_nil)
      (pss_one (ps_set (i := 1) sc.nd rfl (Or.inl rfl) (pe_op op_mul (pv 1) (pv 2))))))
    (pss_cons (ps_if (pt_cmpR op_gt (pv 1) pe_int (nomark _))
      (pss_one (ps_ret pe_bl))
      pss_nil)
    (pss_cons (ps_for PassesOwn.never rfl (pi_tup (pe_slice sl_cut (pv 0) (po_some pe_int) po_none)) (pg_name (i := 3) sc.nd rfl (Or.inl rfl))
      (pss_cons (ps_if (PW.pt (pw_or (pt_not (pt_val (pe_callB call_isi (by rfl) B.isinstance (by decide +kernel) (pa_cons (pv 3) (pa_cons (pe_bltn (v := V.ty "tuple") (u := Value.type "tuple") (by rfl) B.tuple (by decide +kernel) rfl) pa_nil))))) (pw_or (pt_cmpR op_lt (pe_callB call_len_seq (by rfl) B.len (by decide +kernel) (pa_cons (pv 3) pa_nil)) pe_int (nomark _)) (pw_or1 (pt_cmpR op_gt (pe_callB call_len_seq (by rfl) B.len (by decide +kernel) (pa_cons (pv 3) pa_nil)) pe_int (nomark _))))))
        (pss_one (ps_ret pe_bl))
        pss_nil)
      (pss_one (ps_for PassesOwn.never rfl (pi_tup (pv 3)) (pg_name (i := 4) sc.nd rfl (Or.inl rfl))
        (pss_one (ps_if (pt_not (pt_val (pc g_law_rows_right hr (pa_cons (pv 4) (pa_cons (pe_ix ix_tup (pv 0) pe_int (fun _ _ => rfl)) pa_nil)))))
          (pss_one (ps_ret pe_bl))
          pss_nil))))))
    (pss_one (ps_ret pe_bl))))))))), ?_⟩
  have no : isTask d = false → ∀ H', Same H H' → Q (.bl false) H' := fun e H' s => by have := k H' s; rw [e] at this; exact this
  refine ⟨_, rfl, x, _, _, _, isTup d, rfl, ClsV.ty _, hd.ty, kit_ty (kit_tup d), _, rfl, ?_⟩
  cases ht : isTup d with
  | false =>
    refine iteT ?_
    refine iteT ?_
    exact no (by cases d <;> first | rfl | cases ht) H (Same.refl _)
  | true =>
    refine iteF ?_
    obtain ⟨ds, rfl⟩ := isTup_of ht
    obtain ⟨a, xs, rfl, ha, hx⟩ := dn_tup hd
    refine ⟨_, rfl, a, _, rfl, .inr ha, _, _, rfl, rfl, _, rfl, ?_⟩
    by_cases hl : ds.length = 5
    · obtain ⟨d0, d1, d2, d3, d4, rfl⟩ : ∃ d0 d1 d2 d3 d4, ds = [d0, d1, d2, d3, d4] := by
        match ds, hl with
        | [d0, d1, d2, d3, d4], _ => exact ⟨_, _, _, _, _, rfl⟩
      have e5 : ((xs.length : Nat) : Int) = 5 := by rw [hx.len]; rfl
      rw [decide_eq_true e5]
      refine iteF ?_
      cases hx with
      | @cons v0 _ _ _ h0 hx =>
      cases hx with
      | @cons v1 _ _ _ h1 hx =>
      cases hx with
      | @cons v2 _ _ _ h2 hx =>
      cases hx with
      | @cons v3 _ _ _ h3 hx =>
      cases hx with
      | @cons v4 _ _ _ h4 hx =>
      cases hx
      have eT : isTask (.tuple [d0, d1, d2, d3, d4]) = (isWord d0 && (areLabels d1 d2 && (areInputs (intsD d2) d3 && areInputs (intsD d2) d4))) := rfl
      rw [eT] at k no
      refine ⟨_, rfl, a, _, _, _, rfl, rfl, ha, at_of (j := 0) rfl rfl, v0, _, _, _, isS d0, rfl, ClsV.ty _, h0.ty, kit_ty (kit_str d0), _, rfl, ?_⟩
      cases hs : isS d0 with
      | false =>
        refine iteT ?_
        refine iteT ?_
        exact no (by cases d0 <;> first | rfl | cases hs) H (Same.refl _)
      | true =>
        refine iteF ?_
        obtain ⟨x0, rfl⟩ : ∃ x0, d0 = .str x0 := by cases d0 <;> first | exact ⟨_, rfl⟩ | cases hs
        obtain rfl := dn_str h0
        refine ⟨_, rfl, a, _, _, _, rfl, rfl, ha, at_of (j := 0) rfl rfl, _, _, rfl, rfl, _, rfl, ?_⟩
        have eW : isWord (.str x0) = decide (x0 = "task") := rfl
        rw [eW] at k no
        cases hw : decide (x0 = "task") with
        | false =>
          refine iteT ?_
          exact no (by rw [hw]; rfl) H (Same.refl _)
        | true =>
          refine iteF ?_
          rw [hw, Bool.true_and] at k no
          -- the number of colours
          refine ⟨_, rfl, a, _, _, _, rfl, rfl, ha, at_of (j := 1) rfl rfl, M, v1, d1, rfl, h1, _, rfl, ?_⟩
          have labNo : isNum d1 2 4 = false → areLabels d1 d2 = false := fun e => by
            unfold areLabels
            rw [e]
            rfl
          cases hi : isIntD d1 with
          | false =>
            refine iteT ?_
            refine iteT ?_
            exact no (by rw [labNo (by cases d1 <;> first | rfl | cases hi)]; rfl) H (Same.refl _)
          | true =>
            refine iteF ?_
            obtain ⟨D, rfl⟩ : ∃ D, d1 = .int D := by cases d1 <;> first | exact ⟨_, rfl⟩ | cases hi
            obtain rfl := dn_int h1
            have eN : isNum (.int D) 2 4 = (decide (2 ≤ D) && decide (D ≤ 4)) := rfl
            refine ⟨_, rfl, a, _, _, _, rfl, rfl, ha, at_of (j := 1) rfl rfl, _, _, rfl, rfl, _, rfl, ?_⟩
            refine ite2 (fun c => ?_) (fun c => ?_)
            · refine iteT ?_
              exact no (by rw [labNo (by rw [eN, decide_eq_false (by have := dec_t c; omega)]; rfl)]; rfl) H (Same.refl _)
            have c2 := dec_f c
            refine ⟨_, rfl, a, _, _, _, rfl, rfl, ha, at_of (j := 1) rfl rfl, _, _, rfl, rfl, _, rfl, ?_⟩
            refine ite2 (fun c => ?_) (fun c => ?_)
            · exact no (by rw [labNo (by rw [eN, decide_eq_false (show ¬ D ≤ 4 by have := dec_t c; omega), Bool.and_false])]; rfl) H (Same.refl _)
            have c4 := dec_f c
            have hn : isNum (.int D) 2 4 = true := by
              rw [eN, decide_eq_true (by omega), decide_eq_true (by omega)]
              rfl
            -- the labels
            refine ⟨_, rfl, a, _, _, _, rfl, rfl, ha, at_of (j := 2) rfl rfl, v2, _, _, _, isTup d2, rfl, ClsV.ty _, h2.ty, kit_ty (kit_tup d2), _, rfl, ?_⟩
            cases ht2 : isTup d2 with
            | false =>
              refine iteT ?_
              refine iteT ?_
              exact no (by rw [labels_no ht2]; rfl) H (Same.refl _)
            | true =>
              refine iteF ?_
              obtain ⟨ms, rfl⟩ := isTup_of ht2
              obtain ⟨la, lxs, rfl, hla, hlx⟩ := dn_tup h2
              rw [labels_tup hn] at k no
              refine ⟨_, rfl, a, _, _, _, rfl, rfl, ha, at_of (j := 2) rfl rfl, la, _, rfl, .inr hla, _, rfl, a, _, _, _, rfl, rfl, ha, at_of (j := 1) rfl rfl, _, _, rfl, rfl, _, rfl, ?_⟩
              rw [hlx.len]
              cases hl2 : decide (((ms.length : Nat) : Int) = D) with
              | false =>
                refine iteT ?_
                exact no (by rw [hl2]; rfl) H (Same.refl _)
              | true =>
                refine iteF ?_
                have hl2' := dec_t hl2
                rw [hl2, Bool.true_and] at k no
                refine ⟨_, rfl, a, _, _, _, rfl, rfl, ha, at_of (j := 2) rfl rfl, la, rfl, ⟨_, hla⟩, for_tup (K := K) (a := la) (xs := lxs) (fun i σ H' => H = H' ∧ ∃ mv : Option V, σ = [some (.ref a), some (.int (prodD (ms.take i))), mv, none, none] ∧ (ms.take i).all (isNum · 1 60) = true)
                  ⟨rfl, none, rfl, rfl⟩ (fun i σ H' _ z => by rw [← z.1]; exact hla) ?_ ?_⟩
                · rintro i v σ H' hv ⟨rfl, mv, rfl, hall⟩
                  obtain ⟨dm, hdm, hvd⟩ := hlx.of hv
                  have il : i < ms.length := (List.getElem?_eq_some_iff.mp hdm).1
                  have bad : isNum dm 1 60 = false → Q (.bl false) H := fun e => no (by rw [fold_bad hdm e]; rfl) H (Same.refl _)
                  refine ⟨_, rfl, M, v, dm, rfl, hvd, _, rfl, ?_⟩
                  cases him : isIntD dm with
                  | false =>
                    refine iteT ?_
                    refine iteT ?_
                    exact bad (by cases dm <;> first | rfl | cases him)
                  | true =>
                    refine iteF ?_
                    obtain ⟨n, rfl⟩ : ∃ n, dm = .int n := by cases dm <;> first | exact ⟨_, rfl⟩ | cases him
                    obtain rfl := dn_int hvd
                    have eM : isNum (.int n) 1 60 = (decide (1 ≤ n) && decide (n ≤ 60)) := rfl
                    refine ⟨_, rfl, _, _, rfl, rfl, _, rfl, ?_⟩
                    refine ite2 (fun c => ?_) (fun c => ?_)
                    · refine iteT ?_
                      exact bad (by rw [eM, decide_eq_false (by have := dec_t c; omega)]; rfl)
                    have n1 := dec_f c
                    refine ⟨_, rfl, _, _, rfl, rfl, _, rfl, ?_⟩
                    refine ite2 (fun c => ?_) (fun c => ?_)
                    · exact bad (by rw [eM, decide_eq_false (show ¬ n ≤ 60 by have := dec_t c; omega), Bool.and_false])
                    have n60 := dec_f c
                    obtain ⟨p1, p2⟩ := prod_le _ hall
                    have p3 : prodD (ms.take i) ≤ 60 ^ 4 := Int.le_trans p2 (by
                      have h4 : (ms.take i).length ≤ 4 := by rw [List.length_take]; omega
                      exact pow60 _ (by omega))
                    refine ⟨_, rfl, _, rfl, _, _, rfl, rfl, .inr (by omega), ?_⟩
                    refine ⟨rfl, some (.int n), ?_, take_all hdm hall (by show isNum (.int n) 1 60 = true; rw [eM, decide_eq_true (by omega), decide_eq_true (by omega)]; rfl)⟩
                    rw [take_more hdm, prod_more]
                    rfl
                · rintro σ H' ⟨rfl, mv, rfl, hall⟩
                  rw [List.take_of_length_le (by rw [hlx.len]; exact Nat.le_refl _)] at hall ⊢
                  rw [hall, Bool.true_and] at k no
                  refine ⟨_, rfl, _, _, rfl, rfl, _, rfl, ?_⟩
                  refine ite2 (fun c => ?_) (fun c => ?_)
                  · exact no (by rw [decide_eq_false (show ¬ prodD ms ≤ 4000 by have := dec_t c; omega)]; rfl) H (Same.refl _)
                  have c0 := dec_f c
                  rw [decide_eq_true (show prodD ms ≤ 4000 by omega), Bool.true_and] at k no
                  have hms := labels_ints hall
                  have hla2 : SqT K H la ((ms.map numD).map V.int) := by
                    have q := hlx
                    rw [hms] at q
                    rw [← ints_vs q]
                    exact hla
                  have few : (ms.map numD).length ≤ 1000 := by rw [List.length_map]; omega
                  -- the sides
                  have eI : intsD (.tuple ms) = ms.map numD := rfl
                  rw [eI] at k no
                  refine ⟨_, rfl, _, rfl, a, _, rfl, ha, fun t H1 s1 hts => ?_⟩
                  rw [show (3 : Int) = ((3 : Nat) : Int) from rfl, cut_from] at hts
                  have hts : SqT K H1 t [v3, v4] := hts
                  have hsd : DnAll M K H1 [v3, v4] [d3, d4] := .cons (h3.stay (Same.go s1)) (.cons (h4.stay (Same.go s1)) .nil)
                  have hla3 := s1.seqT hla2
                  have ha3 := s1.seqT ha
                  have both : ∀ {j : Nat} {z : PyData}, [d3, d4][j]? = some z → areInputs (ms.map numD) z = false → Q (.bl false) H1 := fun {j z} hj e => by
                    refine no ?_ H1 s1
                    match j, hj with
                    | 0, hj =>
                      have : d3 = z := by simpa using hj
                      rw [this, e]
                      rfl
                    | 1, hj =>
                      have : d4 = z := by simpa using hj
                      rw [this, e, Bool.and_false]
                    | j + 2, hj => exact absurd hj (by simp)
                  refine ⟨t, rfl, ⟨_, hts⟩, for_tup (K := K) (a := t) (xs := [v3, v4]) (fun i σ H' => H1 = H' ∧ ∃ sv rv : Option V, σ = [some (.ref a), some (.int (prodD ms)), mv, sv, rv] ∧ ([d3, d4].take i).all (areInputs (ms.map numD)) = true)
                    ⟨rfl, none, none, rfl, rfl⟩ (fun i σ H' _ z => by rw [← z.1]; exact hts) ?_ ?_⟩
                  · rintro i v σ H' hv ⟨rfl, sv, rv, rfl, hall2⟩
                    obtain ⟨dz, hdz, hvd⟩ := hsd.of hv
                    have bad : areInputs (ms.map numD) dz = false → Q (.bl false) H1 := both hdz
                    have bz : dz.bulk ≤ 1000000 := bulk_mem hb0 (by
                      have := List.mem_of_getElem? hdz
                      simp only [List.mem_cons, List.not_mem_nil, or_false] at this ⊢
                      rcases this with q | q
                      · exact .inr (.inr (.inr (.inl q)))
                      · exact .inr (.inr (.inr (.inr q))))
                    refine ⟨_, rfl, v, _, _, _, isTup dz, rfl, ClsV.ty _, hvd.ty, kit_ty (kit_tup dz), _, rfl, ?_⟩
                    cases htz : isTup dz with
                    | false =>
                      refine iteT ?_
                      refine iteT ?_
                      exact bad (by cases dz <;> first | rfl | cases htz)
                    | true =>
                      refine iteF ?_
                      obtain ⟨es, rfl⟩ := isTup_of htz
                      obtain ⟨b, ys, rfl, hb, hys⟩ := dn_tup hvd
                      have eA : areInputs (ms.map numD) (.tuple es) = (isNum (.int (es.length : Nat)) 1 4 && es.all (areRows (ms.map numD))) := rfl
                      have eL : isNum (.int (es.length : Nat)) 1 4 = (decide (1 ≤ ((es.length : Nat) : Int)) && decide (((es.length : Nat) : Int) ≤ 4)) := rfl
                      have yl : ys.length = es.length := hys.len
                      refine ⟨_, rfl, b, _, rfl, .inr hb, _, _, rfl, rfl, _, rfl, ?_⟩
                      refine ite2 (fun c => ?_) (fun c => ?_)
                      · refine iteT ?_
                        exact bad (by rw [eA, eL, decide_eq_false (by have := dec_t c; omega)]; rfl)
                      have y1 := dec_f c
                      refine ⟨_, rfl, b, _, rfl, .inr hb, _, _, rfl, rfl, _, rfl, ?_⟩
                      refine ite2 (fun c => ?_) (fun c => ?_)
                      · exact bad (by rw [eA, eL, decide_eq_false (show ¬ ((es.length : Nat) : Int) ≤ 4 by have := dec_t c; omega), Bool.and_false]; rfl)
                      have y4 := dec_f c
                      rw [eL, decide_eq_true (by omega), decide_eq_true (by omega), Bool.true_and, Bool.true_and] at eA
                      refine ⟨_, rfl, b, rfl, ⟨_, hb⟩, for_tup (K := K) (a := b) (xs := ys) (fun j σ H' => H1 = H' ∧ ∃ rv : Option V, σ = [some (.ref a), some (.int (prodD ms)), mv, some (.ref b), rv] ∧ (es.take j).all (areRows (ms.map numD)) = true)
                        ⟨rfl, rv, rfl, rfl⟩ (fun j σ H' _ z => by rw [← z.1]; exact hb) ?_ ?_⟩
                      · rintro j y σ H' hy ⟨rfl, rv, rfl, hall3⟩
                        obtain ⟨dr, hdr, hyd⟩ := hys.of hy
                        refine ⟨_, rfl, _, rfl, a, _, _, _, rfl, rfl, ha3, at_of (j := 2) rfl rfl, M, y, dr, la, _, rfl, hyd, bulk_mem bz (List.mem_of_getElem? hdr), hla3, few, _, rfl, ?_⟩
                        cases hrr : areRows (ms.map numD) dr with
                        | false =>
                          refine iteT ?_
                          exact bad (by rw [eA, fold_bad hdr hrr])
                        | true =>
                          refine iteF ?_
                          exact ⟨rfl, _, rfl, take_all hdr hall3 hrr⟩
                      · rintro σ H' ⟨rfl, rv, rfl, hall3⟩
                        rw [List.take_of_length_le (by rw [yl]; exact Nat.le_refl _)] at hall3
                        exact ⟨rfl, _, _, rfl, take_all hdz hall2 (by rw [eA, hall3])⟩
                  · rintro σ H' ⟨rfl, sv, rv, rfl, hall2⟩
                    have h34 : areInputs (ms.map numD) d3 = true ∧ areInputs (ms.map numD) d4 = true := by
                      have : [d3, d4].all (areInputs (ms.map numD)) = true := hall2
                      simpa using this
                    have q := k H1 s1
                    rw [h34.1, h34.2] at q
                    exact q
    · have e5 : ¬ ((xs.length : Nat) : Int) = 5 := by rw [hx.len]; omega
      rw [decide_eq_false e5]
      refine iteT ?_
      refine iteT ?_
      refine no ?_ H (Same.refl _)
      match ds, hl with
      | [], _ => rfl
      | [_], _ => rfl
      | [_, _], _ => rfl
      | [_, _, _], _ => rfl
      | [_, _, _, _], _ => rfl
      | [_, _, _, _, _], hl => exact absurd rfl hl
      | _ :: _ :: _ :: _ :: _ :: _ :: _, _ => rfl
set_option maxHeartbeats 1000000 in
theorem ho_right {f : Addr} {fd : FuncData} (B : Blt mg) (h_law_integer : HasE P w K mg base 1 "_law_integer" ["value"] (fun _ => spInteger K)) (h_law_rows_right : HasE P w K mg base 2 "_law_rows_right" ["rows", "labels"] (fun _ => spRR K)) (F : Fun K "_law_right" "_law_right" s_law_right f fd) : FnE P w K mg base 3 f fd ["value"] (fun _ => spRight K) := by
  have sc : FnScope ["value", "product", "many", "side", "rows"] ["value"] (defScope s_law_right) := ⟨rfl, rfl, rfl, by decide +kernel, rfl, by decide +kernel, by decide +kernel⟩
  refine FnE.by F sc (fun p vs H Q E h => ?_) (fun cdv A outer s H vs Q E p hot hr h => ?_)
  · obtain ⟨_, _, _, rfl, _⟩ := h
    rfl
  obtain ⟨M, x, d, rfl, hd, hb0, k⟩ := h
  refine ⟨_, (pss_cons (ps_if (PW.pt (pw_or (pt_not (pt_val (pe_callB call_isi (by rfl) B.isinstance (by decide +kernel) (pa_cons (pv 0) (pa_cons (pe_bltn (v := V.ty "tuple") (u := Value.type "tuple") (by rfl) B.tuple (by decide +kernel) rfl) pa_nil))))) (pw_or (pt_cmpR op_nei (pe_callB call_len_seq (by rfl) B.len (by decide +kernel) (pa_cons (pv 0) pa_nil)) pe_int (nomark _)) (pw_or (pt_not (pt_val (pe_callB call_isi (by rfl) B.isinstance (by decide +kernel) (pa_cons (pe_ix ix_tup (pv 0) pe_int (fun _ _ => rfl)) (pa_cons (pe_bltn (v := V.ty "str") (u := Value.type "str") (by rfl) B.str (by decide +kernel) rfl) pa_nil))))) (pw_or1 (pt_cmpR op_nes (pe_ix ix_tup (pv 0) pe_int (fun _ _ => rfl)) pe_str (nomark _)))))))
      (pss_one (ps_ret pe_bl))
      pss_nil)
    (pss_cons (ps_if (PW.pt (pw_or (pt_not (pt_val (pcH h_law_integer hr (hot1_deeper hot) List.mem_cons_self (pa_cons (pe_ix ix_tup (pv 0) pe_int (fun _ _ => rfl)) pa_nil)))) (pw_or (pt_cmpR op_lt (pe_ix ix_tup (pv 0) pe_int (fun _ _ => rfl)) pe_int (nomark _)) (pw_or1 (pt_cmpR op_gt (pe_ix ix_tup (pv 0) pe_int (fun _ _ => rfl)) pe_int (nomark _))))))
      (pss_one (ps_ret pe_bl))
      pss_nil)
    (pss_cons (ps_if (PW.pt (pw_or (pt_not (pt_val (pe_callB call_isi (by rfl) B.isinstance (by decide +kernel) (pa_cons (pe_ix ix_tup (pv 0) pe_int (fun _ _ => rfl)) (pa_cons (pe_bltn (v := V.ty "tuple") (u := Value.type "tuple") (by rfl) B.tuple (by decide +kernel) rfl) pa_nil))))) (pw_or1 (pt_cmpR op_nei (pe_callB call_len_seq (by rfl) B.len (by decide +kernel) (pa_cons (pe_ix ix_tup (pv 0) pe_int (fun _ _ => rfl)) pa_nil)) (pe_ix ix_tup (pv 0) pe_int (fun _ _ => rfl)) (nomark _)))))
      (pss_one (ps_ret pe_bl))
      pss_nil)
    (pss_cons (ps_set (i := 1) sc.nd rfl (Or.inl rfl) pe_int)
    (pss_cons (L2H.ps_forH PassesOwn.never (hotC_cx hot) (pi_tupH (pe_ix ix_tup (pv 0) pe_int (fun _ _ => rfl))) (pg_name (i := 2) sc.nd rfl (Or.inl rfl))
      (pss_cons (ps_if (PW.pt (pw_or (pt_not (pt_val (pcH h_law_integer hr (hot1_deeper hot) List.mem_cons_self (pa_cons (pv 2) pa_nil)))) (pw_or (pt_cmpR op_lt (pv 2) pe_int (nomark _)) (pw_or1 (pt_cmpR op_gt (pv 2) pe_int (nomark _))))))
        (pss_one (ps_ret pe_bl))
        pss_nil)
      (pss_one (ps_set (i := 1) sc.nd rfl (Or.inl rfl) (pe_op op_mul (pv 1) (pv 2))))))
    (pss_cons (ps_if (pt_cmpR op_gt (pv 1) pe_int (nomark _))
      (pss_one (ps_ret pe_bl))
      pss_nil)
    (pss_cons (L2H.ps_forH PassesOwn.never (hotC_cx hot) (pi_tupH (pe_slice sl_cut (pv 0) (po_some pe_int) po_none)) (pg_name (i := 3) sc.nd rfl (Or.inl rfl))
      (pss_cons (ps_if (PW.pt (pw_or (pt_not (pt_val (pe_callB call_isi (by rfl) B.isinstance (by decide +kernel) (pa_cons (pv 3) (pa_cons (pe_bltn (v := V.ty "tuple") (u := Value.type "tuple") (by rfl) B.tuple (by decide +kernel) rfl) pa_nil))))) (pw_or (pt_cmpR op_lt (pe_callB call_len_seq (by rfl) B.len (by decide +kernel) (pa_cons (pv 3) pa_nil)) pe_int (nomark _)) (pw_or1 (pt_cmpR op_gt (pe_callB call_len_seq (by rfl) B.len (by decide +kernel) (pa_cons (pv 3) pa_nil)) pe_int (nomark _))))))
        (pss_one (ps_ret pe_bl))
        pss_nil)
      (pss_one (L2H.ps_forH PassesOwn.never (hotC_cx hot) (pi_tupH (pv 3)) (pg_name (i := 4) sc.nd rfl (Or.inl rfl))
        (pss_one (ps_if (pt_not (pt_val (pcH h_law_rows_right hr (hot1_deeper hot) List.mem_cons_self (pa_cons (pv 4) (pa_cons (pe_ix ix_tup (pv 0) pe_int (fun _ _ => rfl)) pa_nil)))))
          (pss_one (ps_ret pe_bl))
          pss_nil))))))
    (pss_one (ps_ret pe_bl))))))))), ?_⟩
  have no : isTask d = false → ∀ H', Same H H' → Q (.bl false) H' := fun e H' s => by have := k H' s; rw [e] at this; exact this
  refine ⟨_, rfl, x, _, _, _, isTup d, rfl, ClsV.ty _, hd.ty, kit_ty (kit_tup d), _, rfl, ?_⟩
  cases ht : isTup d with
  | false =>
    refine iteT ?_
    refine iteT ?_
    exact no (by cases d <;> first | rfl | cases ht) H (Same.refl _)
  | true =>
    refine iteF ?_
    obtain ⟨ds, rfl⟩ := isTup_of ht
    obtain ⟨a, xs, rfl, ha, hx⟩ := dn_tup hd
    refine ⟨_, rfl, a, _, rfl, .inr ha, _, _, rfl, rfl, _, rfl, ?_⟩
    by_cases hl : ds.length = 5
    · obtain ⟨d0, d1, d2, d3, d4, rfl⟩ : ∃ d0 d1 d2 d3 d4, ds = [d0, d1, d2, d3, d4] := by
        match ds, hl with
        | [d0, d1, d2, d3, d4], _ => exact ⟨_, _, _, _, _, rfl⟩
      have e5 : ((xs.length : Nat) : Int) = 5 := by rw [hx.len]; rfl
      rw [decide_eq_true e5]
      refine iteF ?_
      cases hx with
      | @cons v0 _ _ _ h0 hx =>
      cases hx with
      | @cons v1 _ _ _ h1 hx =>
      cases hx with
      | @cons v2 _ _ _ h2 hx =>
      cases hx with
      | @cons v3 _ _ _ h3 hx =>
      cases hx with
      | @cons v4 _ _ _ h4 hx =>
      cases hx
      have eT : isTask (.tuple [d0, d1, d2, d3, d4]) = (isWord d0 && (areLabels d1 d2 && (areInputs (intsD d2) d3 && areInputs (intsD d2) d4))) := rfl
      rw [eT] at k no
      refine ⟨_, rfl, a, _, _, _, rfl, rfl, ha, at_of (j := 0) rfl rfl, v0, _, _, _, isS d0, rfl, ClsV.ty _, h0.ty, kit_ty (kit_str d0), _, rfl, ?_⟩
      cases hs : isS d0 with
      | false =>
        refine iteT ?_
        refine iteT ?_
        exact no (by cases d0 <;> first | rfl | cases hs) H (Same.refl _)
      | true =>
        refine iteF ?_
        obtain ⟨x0, rfl⟩ : ∃ x0, d0 = .str x0 := by cases d0 <;> first | exact ⟨_, rfl⟩ | cases hs
        obtain rfl := dn_str h0
        refine ⟨_, rfl, a, _, _, _, rfl, rfl, ha, at_of (j := 0) rfl rfl, _, _, rfl, rfl, _, rfl, ?_⟩
        have eW : isWord (.str x0) = decide (x0 = "task") := rfl
        rw [eW] at k no
        cases hw : decide (x0 = "task") with
        | false =>
          refine iteT ?_
          exact no (by rw [hw]; rfl) H (Same.refl _)
        | true =>
          refine iteF ?_
          rw [hw, Bool.true_and] at k no
          -- the number of colours
          refine ⟨_, rfl, a, _, _, _, rfl, rfl, ha, at_of (j := 1) rfl rfl, M, v1, d1, rfl, h1, _, rfl, ?_⟩
          have labNo : isNum d1 2 4 = false → areLabels d1 d2 = false := fun e => by
            unfold areLabels
            rw [e]
            rfl
          cases hi : isIntD d1 with
          | false =>
            refine iteT ?_
            refine iteT ?_
            exact no (by rw [labNo (by cases d1 <;> first | rfl | cases hi)]; rfl) H (Same.refl _)
          | true =>
            refine iteF ?_
            obtain ⟨D, rfl⟩ : ∃ D, d1 = .int D := by cases d1 <;> first | exact ⟨_, rfl⟩ | cases hi
            obtain rfl := dn_int h1
            have eN : isNum (.int D) 2 4 = (decide (2 ≤ D) && decide (D ≤ 4)) := rfl
            refine ⟨_, rfl, a, _, _, _, rfl, rfl, ha, at_of (j := 1) rfl rfl, _, _, rfl, rfl, _, rfl, ?_⟩
            refine ite2 (fun c => ?_) (fun c => ?_)
            · refine iteT ?_
              exact no (by rw [labNo (by rw [eN, decide_eq_false (by have := dec_t c; omega)]; rfl)]; rfl) H (Same.refl _)
            have c2 := dec_f c
            refine ⟨_, rfl, a, _, _, _, rfl, rfl, ha, at_of (j := 1) rfl rfl, _, _, rfl, rfl, _, rfl, ?_⟩
            refine ite2 (fun c => ?_) (fun c => ?_)
            · exact no (by rw [labNo (by rw [eN, decide_eq_false (show ¬ D ≤ 4 by have := dec_t c; omega), Bool.and_false])]; rfl) H (Same.refl _)
            have c4 := dec_f c
            have hn : isNum (.int D) 2 4 = true := by
              rw [eN, decide_eq_true (by omega), decide_eq_true (by omega)]
              rfl
            -- the labels
            refine ⟨_, rfl, a, _, _, _, rfl, rfl, ha, at_of (j := 2) rfl rfl, v2, _, _, _, isTup d2, rfl, ClsV.ty _, h2.ty, kit_ty (kit_tup d2), _, rfl, ?_⟩
            cases ht2 : isTup d2 with
            | false =>
              refine iteT ?_
              refine iteT ?_
              exact no (by rw [labels_no ht2]; rfl) H (Same.refl _)
            | true =>
              refine iteF ?_
              obtain ⟨ms, rfl⟩ := isTup_of ht2
              obtain ⟨la, lxs, rfl, hla, hlx⟩ := dn_tup h2
              rw [labels_tup hn] at k no
              refine ⟨_, rfl, a, _, _, _, rfl, rfl, ha, at_of (j := 2) rfl rfl, la, _, rfl, .inr hla, _, rfl, a, _, _, _, rfl, rfl, ha, at_of (j := 1) rfl rfl, _, _, rfl, rfl, _, rfl, ?_⟩
              rw [hlx.len]
              cases hl2 : decide (((ms.length : Nat) : Int) = D) with
              | false =>
                refine iteT ?_
                exact no (by rw [hl2]; rfl) H (Same.refl _)
              | true =>
                refine iteF ?_
                have hl2' := dec_t hl2
                rw [hl2, Bool.true_and] at k no
                refine ⟨_, rfl, a, _, _, _, rfl, rfl, ha, at_of (j := 2) rfl rfl, la, rfl, ⟨_, hla⟩, for_tup (K := K) (a := la) (xs := lxs) (fun i σ H' => H = H' ∧ ∃ mv : Option V, σ = [some (.ref a), some (.int (prodD (ms.take i))), mv, none, none] ∧ (ms.take i).all (isNum · 1 60) = true)
                  ⟨rfl, none, rfl, rfl⟩ (fun i σ H' _ z => by rw [← z.1]; exact hla) ?_ ?_⟩
                · rintro i v σ H' hv ⟨rfl, mv, rfl, hall⟩
                  obtain ⟨dm, hdm, hvd⟩ := hlx.of hv
                  have il : i < ms.length := (List.getElem?_eq_some_iff.mp hdm).1
                  have bad : isNum dm 1 60 = false → Q (.bl false) H := fun e => no (by rw [fold_bad hdm e]; rfl) H (Same.refl _)
                  refine ⟨_, rfl, M, v, dm, rfl, hvd, _, rfl, ?_⟩
                  cases him : isIntD dm with
                  | false =>
                    refine iteT ?_
                    refine iteT ?_
                    exact bad (by cases dm <;> first | rfl | cases him)
                  | true =>
                    refine iteF ?_
                    obtain ⟨n, rfl⟩ : ∃ n, dm = .int n := by cases dm <;> first | exact ⟨_, rfl⟩ | cases him
                    obtain rfl := dn_int hvd
                    have eM : isNum (.int n) 1 60 = (decide (1 ≤ n) && decide (n ≤ 60)) := rfl
                    refine ⟨_, rfl, _, _, rfl, rfl, _, rfl, ?_⟩
                    refine ite2 (fun c => ?_) (fun c => ?_)
                    · refine iteT ?_
                      exact bad (by rw [eM, decide_eq_false (by have := dec_t c; omega)]; rfl)
                    have n1 := dec_f c
                    refine ⟨_, rfl, _, _, rfl, rfl, _, rfl, ?_⟩
                    refine ite2 (fun c => ?_) (fun c => ?_)
                    · exact bad (by rw [eM, decide_eq_false (show ¬ n ≤ 60 by have := dec_t c; omega), Bool.and_false])
                    have n60 := dec_f c
                    obtain ⟨p1, p2⟩ := prod_le _ hall
                    have p3 : prodD (ms.take i) ≤ 60 ^ 4 := Int.le_trans p2 (by
                      have h4 : (ms.take i).length ≤ 4 := by rw [List.length_take]; omega
                      exact pow60 _ (by omega))
                    refine ⟨_, rfl, _, rfl, _, _, rfl, rfl, .inr (by omega), ?_⟩
                    refine ⟨rfl, some (.int n), ?_, take_all hdm hall (by show isNum (.int n) 1 60 = true; rw [eM, decide_eq_true (by omega), decide_eq_true (by omega)]; rfl)⟩
                    rw [take_more hdm, prod_more]
                    rfl
                · rintro σ H' ⟨rfl, mv, rfl, hall⟩
                  rw [List.take_of_length_le (by rw [hlx.len]; exact Nat.le_refl _)] at hall ⊢
                  rw [hall, Bool.true_and] at k no
                  refine ⟨_, rfl, _, _, rfl, rfl, _, rfl, ?_⟩
                  refine ite2 (fun c => ?_) (fun c => ?_)
                  · exact no (by rw [decide_eq_false (show ¬ prodD ms ≤ 4000 by have := dec_t c; omega)]; rfl) H (Same.refl _)
                  have c0 := dec_f c
                  rw [decide_eq_true (show prodD ms ≤ 4000 by omega), Bool.true_and] at k no
                  have hms := labels_ints hall
                  have hla2 : SqT K H la ((ms.map numD).map V.int) := by
                    have q := hlx
                    rw [hms] at q
                    rw [← ints_vs q]
                    exact hla
                  have few : (ms.map numD).length ≤ 1000 := by rw [List.length_map]; omega
                  -- the sides
                  have eI : intsD (.tuple ms) = ms.map numD := rfl
                  rw [eI] at k no
                  refine ⟨_, rfl, _, rfl, a, _, rfl, ha, fun t H1 s1 hts => ?_⟩
                  rw [show (3 : Int) = ((3 : Nat) : Int) from rfl, cut_from] at hts
                  have hts : SqT K H1 t [v3, v4] := hts
                  have hsd : DnAll M K H1 [v3, v4] [d3, d4] := .cons (h3.stay (Same.go s1)) (.cons (h4.stay (Same.go s1)) .nil)
                  have hla3 := s1.seqT hla2
                  have ha3 := s1.seqT ha
                  have both : ∀ {j : Nat} {z : PyData}, [d3, d4][j]? = some z → areInputs (ms.map numD) z = false → Q (.bl false) H1 := fun {j z} hj e => by
                    refine no ?_ H1 s1
                    match j, hj with
                    | 0, hj =>
                      have : d3 = z := by simpa using hj
                      rw [this, e]
                      rfl
                    | 1, hj =>
                      have : d4 = z := by simpa using hj
                      rw [this, e, Bool.and_false]
                    | j + 2, hj => exact absurd hj (by simp)
                  refine ⟨t, rfl, ⟨_, hts⟩, for_tup (K := K) (a := t) (xs := [v3, v4]) (fun i σ H' => H1 = H' ∧ ∃ sv rv : Option V, σ = [some (.ref a), some (.int (prodD ms)), mv, sv, rv] ∧ ([d3, d4].take i).all (areInputs (ms.map numD)) = true)
                    ⟨rfl, none, none, rfl, rfl⟩ (fun i σ H' _ z => by rw [← z.1]; exact hts) ?_ ?_⟩
                  · rintro i v σ H' hv ⟨rfl, sv, rv, rfl, hall2⟩
                    obtain ⟨dz, hdz, hvd⟩ := hsd.of hv
                    have bad : areInputs (ms.map numD) dz = false → Q (.bl false) H1 := both hdz
                    have bz : dz.bulk ≤ 1000000 := bulk_mem hb0 (by
                      have := List.mem_of_getElem? hdz
                      simp only [List.mem_cons, List.not_mem_nil, or_false] at this ⊢
                      rcases this with q | q
                      · exact .inr (.inr (.inr (.inl q)))
                      · exact .inr (.inr (.inr (.inr q))))
                    refine ⟨_, rfl, v, _, _, _, isTup dz, rfl, ClsV.ty _, hvd.ty, kit_ty (kit_tup dz), _, rfl, ?_⟩
                    cases htz : isTup dz with
                    | false =>
                      refine iteT ?_
                      refine iteT ?_
                      exact bad (by cases dz <;> first | rfl | cases htz)
                    | true =>
                      refine iteF ?_
                      obtain ⟨es, rfl⟩ := isTup_of htz
                      obtain ⟨b, ys, rfl, hb, hys⟩ := dn_tup hvd
                      have eA : areInputs (ms.map numD) (.tuple es) = (isNum (.int (es.length : Nat)) 1 4 && es.all (areRows (ms.map numD))) := rfl
                      have eL : isNum (.int (es.length : Nat)) 1 4 = (decide (1 ≤ ((es.length : Nat) : Int)) && decide (((es.length : Nat) : Int) ≤ 4)) := rfl
                      have yl : ys.length = es.length := hys.len
                      refine ⟨_, rfl, b, _, rfl, .inr hb, _, _, rfl, rfl, _, rfl, ?_⟩
                      refine ite2 (fun c => ?_) (fun c => ?_)
                      · refine iteT ?_
                        exact bad (by rw [eA, eL, decide_eq_false (by have := dec_t c; omega)]; rfl)
                      have y1 := dec_f c
                      refine ⟨_, rfl, b, _, rfl, .inr hb, _, _, rfl, rfl, _, rfl, ?_⟩
                      refine ite2 (fun c => ?_) (fun c => ?_)
                      · exact bad (by rw [eA, eL, decide_eq_false (show ¬ ((es.length : Nat) : Int) ≤ 4 by have := dec_t c; omega), Bool.and_false]; rfl)
                      have y4 := dec_f c
                      rw [eL, decide_eq_true (by omega), decide_eq_true (by omega), Bool.true_and, Bool.true_and] at eA
                      refine ⟨_, rfl, b, rfl, ⟨_, hb⟩, for_tup (K := K) (a := b) (xs := ys) (fun j σ H' => H1 = H' ∧ ∃ rv : Option V, σ = [some (.ref a), some (.int (prodD ms)), mv, some (.ref b), rv] ∧ (es.take j).all (areRows (ms.map numD)) = true)
                        ⟨rfl, rv, rfl, rfl⟩ (fun j σ H' _ z => by rw [← z.1]; exact hb) ?_ ?_⟩
                      · rintro j y σ H' hy ⟨rfl, rv, rfl, hall3⟩
                        obtain ⟨dr, hdr, hyd⟩ := hys.of hy
                        refine ⟨_, rfl, _, rfl, a, _, _, _, rfl, rfl, ha3, at_of (j := 2) rfl rfl, M, y, dr, la, _, rfl, hyd, bulk_mem bz (List.mem_of_getElem? hdr), hla3, few, _, rfl, ?_⟩
                        cases hrr : areRows (ms.map numD) dr with
                        | false =>
                          refine iteT ?_
                          exact bad (by rw [eA, fold_bad hdr hrr])
                        | true =>
                          refine iteF ?_
                          exact ⟨rfl, _, rfl, take_all hdr hall3 hrr⟩
                      · rintro σ H' ⟨rfl, rv, rfl, hall3⟩
                        rw [List.take_of_length_le (by rw [yl]; exact Nat.le_refl _)] at hall3
                        exact ⟨rfl, _, _, rfl, take_all hdz hall2 (by rw [eA, hall3])⟩
                  · rintro σ H' ⟨rfl, sv, rv, rfl, hall2⟩
                    have h34 : areInputs (ms.map numD) d3 = true ∧ areInputs (ms.map numD) d4 = true := by
                      have : [d3, d4].all (areInputs (ms.map numD)) = true := hall2
                      simpa using this
                    have q := k H1 s1
                    rw [h34.1, h34.2] at q
                    exact q
    · have e5 : ¬ ((xs.length : Nat) : Int) = 5 := by rw [hx.len]; omega
      rw [decide_eq_false e5]
      refine iteT ?_
      refine iteT ?_
      refine no ?_ H (Same.refl _)
      match ds, hl with
      | [], _ => rfl
      | [_], _ => rfl
      | [_, _], _ => rfl
      | [_, _, _], _ => rfl
      | [_, _, _, _], _ => rfl
      | [_, _, _, _, _], hl => exact absurd rfl hl
      | _ :: _ :: _ :: _ :: _ :: _ :: _, _ => rfl
end
section
variable {P : Program} {w : World} {K : PySem.W.Frag} {mg : Str → Option Value} {base : Heap}
/-- what the classes of errors are to each other -/
structure Errs (K : PySem.W.Frag) (mg : Str → Option Value) (C : Addr) : Prop where
  ex : ExcC K C
  LookError : ∃ D, mg "LookError" = some (.ref D) ∧ PySem.W.kitOne K (.ref C) (.ref D) = some true
  ValueError : PySem.W.kitOne K (.ref C) (.type "ValueError") = some true
  BadAlgorithm : ∃ D, mg "BadAlgorithm" = some (.ref D) ∧ PySem.W.kitOne K (.ref C) (.ref D) = some false
  BadNetwork : ∃ D, mg "BadNetwork" = some (.ref D) ∧ PySem.W.kitOne K (.ref C) (.ref D) = some false
  BadReach : ∃ D, mg "BadReach" = some (.ref D) ∧ PySem.W.kitOne K (.ref C) (.ref D) = some false
  BadEasing : ∃ D, mg "BadEasing" = some (.ref D) ∧ PySem.W.kitOne K (.ref C) (.ref D) = some false
  NoRows : ∃ D, mg "NoRows" = some (.ref D) ∧ PySem.W.kitOne K (.ref C) (.ref D) = some false
  TooMany : ∃ D, mg "TooMany" = some (.ref D) ∧ PySem.W.kitOne K (.ref C) (.ref D) = some false
  BadText : ∃ D, mg "BadText" = some (.ref D) ∧ PySem.W.kitOne K (.ref C) (.ref D) = some false
def spOnly (C : Addr) (p : Addr × Obj) : Sp := fun vs H Q _ => vs = [.ref p.1] ∧ Zc (.ref C) none p.2 ∧ (∃ vs, p.2.data = .fields vs) ∧ Q (.bl true) H
def spOnlyA (C a : Addr) (cls : Value) (d : Option Addr) : Sp := fun vs H Q _ => vs = [.ref a] ∧ cls = .ref C ∧ d = none ∧ Q (.bl true) H
theorem only_imp {C a : Addr} {oe : Obj} {cls : Value} {d : Option Addr} (hz : L2N.Zn cls d oe) (hf : ∃ vs, oe.data = .fields vs) : ∀ (vs : List V) (H : Hp) (Q : VK), spOnlyA C a cls d vs H Q E0 → spOnly C (a, oe) vs H Q E0 := by
  rintro vs H Q ⟨e, rfl, rfl, q⟩
  exact ⟨e, hz.zc, hf, q⟩
theorem rel_ref {D : Addr} : ∀ u, RelV (.ref D) u → u = .ref D := fun u r => r
theorem rel_ty {s : String} : ∀ u, RelV (.ty s) u → u = .type s := fun u r => r
theorem ho_only {C : Addr} {f : Addr} {fd : FuncData} (B : Blt mg) (T : Errs K mg C) (F : Fun K "_law_only_bad_task" "_law_only_bad_task" s_law_only_bad_task f fd) : FnE P w K mg base 1 f fd ["fault"] (spOnly C) := by
  have sc : FnScope ["fault"] ["fault"] (defScope s_law_only_bad_task) := ⟨rfl, rfl, rfl, by decide +kernel, rfl, by decide +kernel, by decide +kernel⟩
  have hC := T.ex
  obtain ⟨D1, gLookError, k1⟩ := T.LookError
  have k2 := T.ValueError
  obtain ⟨D3, gBadAlgorithm, k3⟩ := T.BadAlgorithm
  obtain ⟨D4, gBadNetwork, k4⟩ := T.BadNetwork
  obtain ⟨D5, gBadReach, k5⟩ := T.BadReach
  obtain ⟨D6, gBadEasing, k6⟩ := T.BadEasing
  obtain ⟨D7, gNoRows, k7⟩ := T.NoRows
  obtain ⟨D8, gTooMany, k8⟩ := T.TooMany
  obtain ⟨D9, gBadText, k9⟩ := T.BadText
  refine FnE.by F sc (fun p vs H Q E h => ?_) (fun cdv A outer s H vs Q E p hot hr h => ?_)
  · obtain ⟨rfl, _⟩ := h
    rfl
  obtain ⟨a, oe⟩ := p
  obtain ⟨rfl, hz, hf, k⟩ := h
  refine ⟨_, (pss_cons (ps_if (PW.pt (pw_or (pt_not (pt_val (pe_callB (call_isP hC List.mem_cons_self hz hf) (by rfl) B.isinstance (by decide +kernel) (pa_cons (pv 0) (pa_cons (pe_glob (v := V.ref _) rfl gLookError rfl) pa_nil))))) (pw_or1 (pt_not (pt_val (pe_callB (call_isP hC List.mem_cons_self hz hf) (by rfl) B.isinstance (by decide +kernel) (pa_cons (pv 0) (pa_cons (pe_bltn (v := V.ty "ValueError") (u := Value.type "ValueError") (by rfl) B.ValueError (by decide +kernel) rfl) pa_nil))))))))
      (pss_one (ps_ret pe_bl))
      pss_nil)
    (pss_cons (ps_if (PW.pt (pw_or (pt_val (pe_callB (call_isP hC List.mem_cons_self hz hf) (by rfl) B.isinstance (by decide +kernel) (pa_cons (pv 0) (pa_cons (pe_glob (v := V.ref _) rfl gBadAlgorithm rfl) pa_nil)))) (pw_or (pt_val (pe_callB (call_isP hC List.mem_cons_self hz hf) (by rfl) B.isinstance (by decide +kernel) (pa_cons (pv 0) (pa_cons (pe_glob (v := V.ref _) rfl gBadNetwork rfl) pa_nil)))) (pw_or1 (pt_val (pe_callB (call_isP hC List.mem_cons_self hz hf) (by rfl) B.isinstance (by decide +kernel) (pa_cons (pv 0) (pa_cons (pe_glob (v := V.ref _) rfl gBadReach rfl) pa_nil))))))))
      (pss_one (ps_ret pe_bl))
      pss_nil)
    (pss_cons (ps_if (PW.pt (pw_or (pt_val (pe_callB (call_isP hC List.mem_cons_self hz hf) (by rfl) B.isinstance (by decide +kernel) (pa_cons (pv 0) (pa_cons (pe_glob (v := V.ref _) rfl gBadEasing rfl) pa_nil)))) (pw_or (pt_val (pe_callB (call_isP hC List.mem_cons_self hz hf) (by rfl) B.isinstance (by decide +kernel) (pa_cons (pv 0) (pa_cons (pe_glob (v := V.ref _) rfl gNoRows rfl) pa_nil)))) (pw_or1 (pt_val (pe_callB (call_isP hC List.mem_cons_self hz hf) (by rfl) B.isinstance (by decide +kernel) (pa_cons (pv 0) (pa_cons (pe_glob (v := V.ref _) rfl gTooMany rfl) pa_nil))))))))
      (pss_one (ps_ret pe_bl))
      pss_nil)
    (pss_one (ps_ret (pe_not (pe_callB (call_isP hC List.mem_cons_self hz hf) (by rfl) B.isinstance (by decide +kernel) (pa_cons (pv 0) (pa_cons (pe_glob (v := V.ref _) rfl gBadText rfl) pa_nil))))))))), ?_⟩
  refine ⟨_, rfl, .ref D1, _, true, rfl, rel_ref, k1, _, rfl, iteF ?_⟩
  refine ⟨_, rfl, .ty "ValueError", _, true, rfl, rel_ty, k2, _, rfl, iteF ?_⟩
  refine ⟨_, rfl, .ref D3, _, false, rfl, rel_ref, k3, _, rfl, iteF ?_⟩
  refine ⟨_, rfl, .ref D4, _, false, rfl, rel_ref, k4, _, rfl, iteF ?_⟩
  refine ⟨_, rfl, .ref D5, _, false, rfl, rel_ref, k5, _, rfl, iteF ?_⟩
  refine ⟨_, rfl, .ref D6, _, false, rfl, rel_ref, k6, _, rfl, iteF ?_⟩
  refine ⟨_, rfl, .ref D7, _, false, rfl, rel_ref, k7, _, rfl, iteF ?_⟩
  refine ⟨_, rfl, .ref D8, _, false, rfl, rel_ref, k8, _, rfl, iteF ?_⟩
  refine ⟨_, rfl, .ref D9, _, false, rfl, rel_ref, k9, _, rfl, ?_⟩
  exact k
end
section
variable {P : Program} {w : World} {K : PySem.W.Frag} {mg : Str → Option Value} {base : Heap}
def spAskV (K : PySem.W.Frag) : Sp := fun vs H Q _ => ∃ (M : Addr → Prop) (x : V) (d : PyData), vs = [x] ∧ Dn M K H x d ∧ Sys K H ∧ Sized 300000 50 d ∧ WordOk d ∧ ∀ H', Same H H' → Q (.bl true) H'
set_option maxHeartbeats 1000000 in
theorem ok_asked {C : Addr} {f : Addr} {fd : FuncData} (B : Blt mg) (eBadTask : Err K mg "BadTask" C) (hex : PySem.W.exmOne K (.ref C) (.ref C) = some true) (gcheck_task : Has P w K mg base (L2N.CX P w) 6 "check_task" ["task"] (spCheckT K C)) (g_law_right : Has P w K mg base CX0 3 "_law_right" ["value"] (spRight K))
    (h_law_right : HasE P w K mg base 3 "_law_right" ["value"] (fun _ => spRight K)) (h_law_only_bad_task : HasE P w K mg base 1 "_law_only_bad_task" ["fault"] (spOnly C)) (F : Fun K "_law_asked" "_law_asked" s_law_asked f fd) : FnG P w K mg base 8 f fd ["value"] (spAskV K) := by
  have sc : FnScope ["value", "kept", "e", "answer"] ["value"] (defScope s_law_asked) := ⟨rfl, rfl, rfl, by decide +kernel, rfl, by decide +kernel, by decide +kernel⟩
  refine FnG.by F sc (fun vs H Q E h => ?_) (fun cdv A outer s H vs Q E hg hr h => ?_)
  · obtain ⟨_, _, _, rfl, _⟩ := h
    rfl
  obtain ⟨M, x, d, rfl, hd, S, sz, wo, k⟩ := h
  refine ⟨_, (pss_cons (ps_set (i := 1) sc.nd rfl (Or.inl rfl) (pe_callB (call_repN hg hr.units) (by rfl) B.repr (by decide +kernel) (pa_cons (pv 0) pa_nil)))
    (pss_cons (L2N.ps_try_as (i := 2) rfl rfl sc.nd rfl rfl ⟨rfl, by decide, .inl eBadTask.g⟩ takes0N (fun W pn xe tk _ =>
      (pss_one (ps_set (i := 3) sc.nd rfl (Or.inl rfl) (pcSN gcheck_task hr tk (pa_cons (pv 0) pa_nil)))))
      (fun a oe cls d pn hz hf => (pss_one (ps_ret (pe_and (pe_not (pcHi (sp' := (spRight K)) h_law_right (roomH_mark hr) (hot_suite hz hf) List.mem_cons_self (fun _ _ _ q => q) (pa_cons (pv 0) pa_nil))) (pe_and (pcHi (sp' := (spOnlyA C a cls d)) h_law_only_bad_task (roomH_mark hr) (hot_suite hz hf) List.mem_cons_self (only_imp hz hf) (pa_cons (pv 2) pa_nil)) (pe_one (pe_cmpR op_eqs (pe_callB (show CallR _ (.builtin "repr") (rRepN K) from call_repN hg hr.units) (by rfl) B.repr (by decide +kernel) (pa_cons (pv 0) pa_nil)) (pv 1) (nomark _)))))))))
    (pss_one (ps_ret (pe_and (pe_cmpR op_isN (pv 3) pe_non (nomark _)) (pe_and (pc g_law_right hr (pa_cons (pv 0) pa_nil)) (pe_one (pe_cmpR op_eqs (pe_callB (call_repN hg hr.units) (by rfl) B.repr (by decide +kernel) (pa_cons (pv 0) pa_nil)) (pv 1) (nomark _))))))))), ?_⟩
  obtain ⟨z1, z2, z3⟩ := sz.rep (by decide) (by decide)
  have hb : d.bulk ≤ 1000000 := Nat.le_trans sz.2.2.2 (by decide)
  refine ⟨_, rfl, M, _, _, rfl, hd, S, z1, z2, z3, ?_⟩
  refine ⟨_, rfl, M, x, d, rfl, hd, hb, wo, fun hT H1 s1 => ?_, fun hF H1 s1 => ?_⟩
  · have hd1 := hd.stay (Same.go s1)
    refine ⟨_, rfl, rfl, _, rfl, ?_⟩
    rw [decide_eq_true rfl]
    refine iteT ?_
    refine ⟨_, rfl, M, x, d, rfl, hd1, hb, fun H2 s2 => ⟨_, rfl, ?_⟩⟩
    rw [hT]
    refine iteT ?_
    refine ⟨_, rfl, M, _, d, rfl, hd1.stay (Same.go s2), (S.same s1).same s2, z1, z2, z3, _, rfl, d.shown, d.shown, rfl, rfl, ?_⟩
    rw [decide_eq_true rfl]
    exact k H2 (s1.trans s2)
  · refine ⟨true, hex, fun _ a ha => ?_, fun q => Bool.noConfusion q⟩
    have hd1 := hd.stay (Same.go s1)
    refine ⟨_, rfl, M, x, d, rfl, hd1, hb, fun H2 s2 => ⟨_, rfl, _, rfl, ?_⟩⟩
    rw [hF]
    refine iteT ?_
    refine ⟨_, rfl, rfl, rfl, rfl, _, rfl, ?_⟩
    refine iteT ?_
    refine ⟨_, rfl, M, _, d, rfl, hd1.stay (Same.go s2), (S.same s1).same s2, z1, z2, z3, _, rfl, d.shown, d.shown, rfl, rfl, ?_⟩
    rw [decide_eq_true rfl]
    exact k H2 (s1.trans s2)
end
section
variable {P : Program} {w : World} {K : PySem.W.Frag} {mg : Str → Option Value} {base : Heap}
def spLaw (K : PySem.W.Frag) : Sp := fun vs H Q _ => ∃ (a : Addr) (ns : List Int), vs = [.ref a] ∧ SqL K H a (ns.map V.int) ∧ ns.length ≤ 63 ∧ Sys K H ∧ ∀ H', Q (.bl true) H'
theorem ok_all {f : Addr} {fd : FuncData} (B : Blt mg) (g_law_draws : Has P w K mg base CX0 1 "_law_draws" ["script", "many"] (spDraws K)) (g_law_task : Has P w K mg base CX0 3 "_law_task" ["hand"] (spLTask K)) (g_law_changed : Has P w K mg base CX0 5 "_law_changed" ["hand", "task"] (spChg K))
    (g_law_asked : HasG P w K mg base 8 "_law_asked" ["value"] (spAskV K)) (F : Fun K "_law_all" "_law_all" s_law_all f fd) : FnG P w K mg base 9 f fd ["script"] (spLaw K) := by
  have sc : FnScope ["script", "hand", "task", "k", "value"] ["script"] (defScope s_law_all) := ⟨rfl, rfl, rfl, by decide +kernel, rfl, by decide +kernel, by decide +kernel⟩
  refine FnG.by F sc (fun vs H Q E h => ?_) (fun cdv A outer s H vs Q E hg hr h => ?_)
  · obtain ⟨_, _, rfl, _⟩ := h
    rfl
  obtain ⟨a, ns, rfl, hS, h63, S0, k⟩ := h
  refine ⟨_, (pss_cons (ps_set (i := 1) sc.nd rfl (Or.inl rfl) (pe_lst (pa_cons (pc g_law_draws hr (pa_cons (pv 0) (pa_cons pe_int pa_nil))) (pa_cons pe_int pa_nil))))
    (pss_cons (ps_set (i := 2) sc.nd rfl (Or.inl rfl) (pc g_law_task hr (pa_cons (pv 1) pa_nil)))
    (pss_cons (ps_if (pt_not (pt_val (pcG g_law_asked hg hr (pa_cons (pv 2) pa_nil))))
      (pss_one (ps_ret pe_bl))
      pss_nil)
    (pss_cons (ps_for PassesOwn.never rfl (pi_range1 (by rfl) B.range (pa_cons pe_int pa_nil)) (pg_name (i := 3) sc.nd rfl (Or.inl rfl))
      (pss_cons (ps_set (i := 4) sc.nd rfl (Or.inl rfl) (pc g_law_changed hr (pa_cons (pv 1) (pa_cons (pv 2) pa_nil))))
      (pss_one (ps_if (PW.pt (pw_or (pt_not (pt_val (pcG g_law_asked hg hr (pa_cons (pv 4) pa_nil)))) (pw_or1 (pt_not (pt_val (pcG g_law_asked hg hr (pa_cons (pv 4) pa_nil)))))))
        (pss_one (ps_ret pe_bl))
        pss_nil))))
    (pss_one (ps_ret (pcG g_law_asked hg hr (pa_cons (pv 2) pa_nil)))))))), ?_⟩
  refine ⟨_, rfl, a, ns, 150, rfl, hS, h63, by omega, fun d H1 ds hd0 s1 hd1 hdl hdb => ⟨(by show 2 ≤ sizeLine; decide), fun h hh0 => ?_⟩⟩
  have ndh : d ≠ h := ne_of_none hd1 hh0
  have hH1 : Hand (upd H1 h (.lst [.ref d, .int 0])) h d ds 0 := ⟨upd_same, by rw [upd_ne ndh]; exact hd1⟩
  have S1 := S0.same (s1.trans (same_new hh0 (.lst [.ref d, .int 0])))
  have nh : ¬ sysModules = h := S1.ne hH1.1
  refine ⟨_, rfl, h, d, ds, 0, rfl, hH1, fun ta H2 n2 D ls W Bl g2 hh2 D2 D4 lab gW gB T2 => ?_⟩
  have S2 := S1.go g2 nh
  have l24 : 2 ≤ ls.length ∧ ls.length ≤ 4 := by have := lab.1; omega
  have tS := (task_sized (D := D) (by omega) (by omega) lab.2.1 l24.2 gW gB).more (show 525 ≤ 300000 by decide) (show 4 ≤ 50 by decide)
  have tw := task_word D ls W Bl
  refine ⟨_, rfl, (· = h), _, _, rfl, T2.dt.dn, S2, tS, tw, fun H3 s3 => ⟨_, rfl, iteF ?_⟩⟩
  refine ⟨5, rfl, by decide, by decide, for_range (lo := 0) (n := (5 : Int).toNat) (fun i σ H4 => ∃ (n : Nat) (kv vv : Option V), σ = [some (.ref a), some (.ref h), some (.ref ta), kv, vv] ∧ Hand H4 h d ds n ∧ Go (· = h) H2 H4)
    ⟨n2, none, none, rfl, hh2.same s3, s3.go⟩ ?_ ?_⟩
  · rintro i σ H4 hi ⟨n, kv, vv, rfl, hh, g4⟩
    refine ⟨_, rfl, _, rfl, h, d, ds, n, _, D, ls, W, Bl, rfl, hh, T2.stay g4.tups, D2, D4, lab, gW, gB, fun v H5 n5 e g5 hh5 dn se wo => ?_⟩
    have g45 := g4.trans g5
    have S5 := S2.go g45 nh
    have se' : Sized 300000 50 e := se.more (by decide) (by decide)
    refine ⟨_, rfl, (· = h), v, e, rfl, dn, S5, se', wo, fun H6 s6 => ⟨_, rfl, iteF ?_⟩⟩
    refine ⟨_, rfl, (· = h), v, e, rfl, dn.stay s6.go, S5.same s6, se', wo, fun H7 s7 => ⟨_, rfl, iteF ?_⟩⟩
    exact ⟨_, _, _, rfl, hh5.same (s6.trans s7), g45.trans (s6.trans s7).go⟩
  · rintro σ H4 ⟨n, kv, vv, rfl, hh, g4⟩
    exact ⟨_, rfl, (· = h), _, _, rfl, (T2.stay g4.tups).dt.dn, S2.go g4 nh, tS, tw, fun H5 _ => k H5⟩
theorem ok_law {C : Addr} {f : Addr} {fd : FuncData} (B : Blt mg) (eLookError : Err K mg "LookError" C) (g_law_all : HasG P w K mg base 9 "_law_all" ["script"] (spLaw K)) (F : Fun K "law" "law" slaw f fd) : FnG P w K mg base 10 f fd ["script"] (spLaw K) := by
  have sc : FnScope ["script"] ["script"] (defScope slaw) := ⟨rfl, rfl, rfl, by decide +kernel, rfl, by decide +kernel, by decide +kernel⟩
  refine FnG.by F sc (fun vs H Q E h => ?_) (fun cdv A outer s H vs Q E hg hr h => ?_)
  · obtain ⟨_, _, rfl, _⟩ := h
    rfl
  obtain ⟨a, ns, rfl, hS, h63, S0, k⟩ := h
  refine ⟨_, (pss_one (ps_try_only rfl rfl ⟨rfl, by decide, .inl eLookError.g⟩ takes0 (fun W pn xe tk _ =>
      (pss_one (ps_ret (pcG g_law_all hg hr (pa_cons (pv 0) pa_nil)))))
      (fun _ _ _ _ _ _ _ => (pss_one (ps_ret pe_bl))))), ?_⟩
  exact ⟨_, rfl, a, ns, rfl, hS, h63, S0, fun H' => k H'⟩
end
/-! ### the top: the defs stand there as the text says -/
theorem def_mk {K : PySem.W.Frag} {h : Heap} {mg : Str → Option Value} {x : Str} {st : Stmt} {ps : List Str} {f : Addr} {od an : Option Addr} {sl : Array (Option Value)} {oc kV dc pm cd ct : Value} (X : K.In h) (G : h.Ns mainGlobals mg)
    (a : PySem.W.nsIn K mainGlobals x = some (some (.ref f))) (l : K.lookup f = some ⟨oc, od, .func (PySem.W.fnOf x x (defArgs st) (defBody st) (defScope st) .none kV dc pm an cd ct), sl⟩) (c : PySem.W.codeIn K cd x = true) (k : PySem.W.keepIn K (.ref f) = true)
    (b : ∀ (kV doc pm : Value) (an : Option Addr) (cdv ct : Value) (us : List Value), us.length = ps.length → bindArgs (PySem.W.fnOf x x (defArgs st) (defBody st) (defScope st) .none kV doc pm an cdv ct) ⟨us, []⟩ = pure (ps.zip us)) : Def K mg x st ps :=
  ⟨f, _, fun_mk l c k, PySem.W.mg_of X G a, (fun_mk l c k).binds b⟩
theorem all_mk {l : PySem.W.OpenLaw} {w : World} {K : PySem.W.Frag} {h : Heap} {mg : Str → Option Value} {fa f11 f12 f19 f20 f21 f22 f23 f24 f26 f27 f28 f29 f30 f31 f32 f33 f34 f35 f36 f37 f38 f39 f40 f41 f42 f43 CBadTask CLookError CBadAlgorithm CBadNetwork CBadReach CBadEasing CNoRows CTooMany CBadText : Addr} (X : K.In h) (G : h.Ns mainGlobals mg) (hfa : mg "law" = some (.ref fa))
    {od11 an11 od12 an12 od19 an19 od20 an20 od21 an21 od22 an22 od23 an23 od24 an24 od26 an26 od27 an27 od28 an28 od29 an29 od30 an30 od31 an31 od32 an32 od33 an33 od34 an34 od35 an35 od36 an36 od37 an37 od38 an38 od39 an39 od40 an40 od41 an41 od42 an42 od43 an43 : Option Addr} {sl11 sl12 sl19 sl20 sl21 sl22 sl23 sl24 sl26 sl27 sl28 sl29 sl30 sl31 sl32 sl33 sl34 sl35 sl36 sl37 sl38 sl39 sl40 sl41 sl42 sl43 : Array (Option Value)} {oc11 kV11 dc11 pm11 cd11 ct11 oc12 kV12 dc12 pm12 cd12 ct12 oc19 kV19 dc19 pm19 cd19 ct19 oc20 kV20 dc20 pm20 cd20 ct20 oc21 kV21 dc21 pm21 cd21 ct21 oc22 kV22 dc22 pm22 cd22 ct22 oc23 kV23 dc23 pm23 cd23 ct23 oc24 kV24 dc24 pm24 cd24 ct24 oc26 kV26 dc26 pm26 cd26 ct26 oc27 kV27 dc27 pm27 cd27 ct27 oc28 kV28 dc28 pm28 cd28 ct28 oc29 kV29 dc29 pm29 cd29 ct29 oc30 kV30 dc30 pm30 cd30 ct30 oc31 kV31 dc31 pm31 cd31 ct31 oc32 kV32 dc32 pm32 cd32 ct32 oc33 kV33 dc33 pm33 cd33 ct33 oc34 kV34 dc34 pm34 cd34 ct34 oc35 kV35 dc35 pm35 cd35 ct35 oc36 kV36 dc36 pm36 cd36 ct36 oc37 kV37 dc37 pm37 cd37 ct37 oc38 kV38 dc38 pm38 cd38 ct38 oc39 kV39 dc39 pm39 cd39 ct39 oc40 kV40 dc40 pm40 cd40 ct40 oc41 kV41 dc41 pm41 cd41 ct41 oc42 kV42 dc42 pm42 cd42 ct42 oc43 kV43 dc43 pm43 cd43 ct43 : Value}
    (a11 : PySem.W.nsIn K mainGlobals "is_number" = some (some (.ref f11))) (l11 : K.lookup f11 = some ⟨oc11, od11, .func (PySem.W.fnOf "is_number" "is_number" (defArgs sis_number) (defBody sis_number) (defScope sis_number) .none kV11 dc11 pm11 an11 cd11 ct11), sl11⟩) (c11 : PySem.W.codeIn K cd11 "is_number" = true) (k11 : PySem.W.keepIn K (.ref f11) = true)
    (a12 : PySem.W.nsIn K mainGlobals "product_of" = some (some (.ref f12))) (l12 : K.lookup f12 = some ⟨oc12, od12, .func (PySem.W.fnOf "product_of" "product_of" (defArgs sproduct_of) (defBody sproduct_of) (defScope sproduct_of) .none kV12 dc12 pm12 an12 cd12 ct12), sl12⟩) (c12 : PySem.W.codeIn K cd12 "product_of" = true) (k12 : PySem.W.keepIn K (.ref f12) = true)
    (a19 : PySem.W.nsIn K mainGlobals "check_task" = some (some (.ref f19))) (l19 : K.lookup f19 = some ⟨oc19, od19, .func (PySem.W.fnOf "check_task" "check_task" (defArgs scheck_task) (defBody scheck_task) (defScope scheck_task) .none kV19 dc19 pm19 an19 cd19 ct19), sl19⟩) (c19 : PySem.W.codeIn K cd19 "check_task" = true) (k19 : PySem.W.keepIn K (.ref f19) = true)
    (a20 : PySem.W.nsIn K mainGlobals "is_task" = some (some (.ref f20))) (l20 : K.lookup f20 = some ⟨oc20, od20, .func (PySem.W.fnOf "is_task" "is_task" (defArgs sis_task) (defBody sis_task) (defScope sis_task) .none kV20 dc20 pm20 an20 cd20 ct20), sl20⟩) (c20 : PySem.W.codeIn K cd20 "is_task" = true) (k20 : PySem.W.keepIn K (.ref f20) = true)
    (a21 : PySem.W.nsIn K mainGlobals "are_labels" = some (some (.ref f21))) (l21 : K.lookup f21 = some ⟨oc21, od21, .func (PySem.W.fnOf "are_labels" "are_labels" (defArgs sare_labels) (defBody sare_labels) (defScope sare_labels) .none kV21 dc21 pm21 an21 cd21 ct21), sl21⟩) (c21 : PySem.W.codeIn K cd21 "are_labels" = true) (k21 : PySem.W.keepIn K (.ref f21) = true)
    (a22 : PySem.W.nsIn K mainGlobals "_are_inputs" = some (some (.ref f22))) (l22 : K.lookup f22 = some ⟨oc22, od22, .func (PySem.W.fnOf "_are_inputs" "_are_inputs" (defArgs s_are_inputs) (defBody s_are_inputs) (defScope s_are_inputs) .none kV22 dc22 pm22 an22 cd22 ct22), sl22⟩) (c22 : PySem.W.codeIn K cd22 "_are_inputs" = true) (k22 : PySem.W.keepIn K (.ref f22) = true)
    (a23 : PySem.W.nsIn K mainGlobals "_are_rows" = some (some (.ref f23))) (l23 : K.lookup f23 = some ⟨oc23, od23, .func (PySem.W.fnOf "_are_rows" "_are_rows" (defArgs s_are_rows) (defBody s_are_rows) (defScope s_are_rows) .none kV23 dc23 pm23 an23 cd23 ct23), sl23⟩) (c23 : PySem.W.codeIn K cd23 "_are_rows" = true) (k23 : PySem.W.keepIn K (.ref f23) = true)
    (a24 : PySem.W.nsIn K mainGlobals "is_row" = some (some (.ref f24))) (l24 : K.lookup f24 = some ⟨oc24, od24, .func (PySem.W.fnOf "is_row" "is_row" (defArgs sis_row) (defBody sis_row) (defScope sis_row) .none kV24 dc24 pm24 an24 cd24 ct24), sl24⟩) (c24 : PySem.W.codeIn K cd24 "is_row" = true) (k24 : PySem.W.keepIn K (.ref f24) = true)
    (a26 : PySem.W.nsIn K mainGlobals "_law_draws" = some (some (.ref f26))) (l26 : K.lookup f26 = some ⟨oc26, od26, .func (PySem.W.fnOf "_law_draws" "_law_draws" (defArgs s_law_draws) (defBody s_law_draws) (defScope s_law_draws) .none kV26 dc26 pm26 an26 cd26 ct26), sl26⟩) (c26 : PySem.W.codeIn K cd26 "_law_draws" = true) (k26 : PySem.W.keepIn K (.ref f26) = true)
    (a27 : PySem.W.nsIn K mainGlobals "_law_take" = some (some (.ref f27))) (l27 : K.lookup f27 = some ⟨oc27, od27, .func (PySem.W.fnOf "_law_take" "_law_take" (defArgs s_law_take) (defBody s_law_take) (defScope s_law_take) .none kV27 dc27 pm27 an27 cd27 ct27), sl27⟩) (c27 : PySem.W.codeIn K cd27 "_law_take" = true) (k27 : PySem.W.keepIn K (.ref f27) = true)
    (a28 : PySem.W.nsIn K mainGlobals "_law_integer" = some (some (.ref f28))) (l28 : K.lookup f28 = some ⟨oc28, od28, .func (PySem.W.fnOf "_law_integer" "_law_integer" (defArgs s_law_integer) (defBody s_law_integer) (defScope s_law_integer) .none kV28 dc28 pm28 an28 cd28 ct28), sl28⟩) (c28 : PySem.W.codeIn K cd28 "_law_integer" = true) (k28 : PySem.W.keepIn K (.ref f28) = true)
    (a29 : PySem.W.nsIn K mainGlobals "_law_rows" = some (some (.ref f29))) (l29 : K.lookup f29 = some ⟨oc29, od29, .func (PySem.W.fnOf "_law_rows" "_law_rows" (defArgs s_law_rows) (defBody s_law_rows) (defScope s_law_rows) .none kV29 dc29 pm29 an29 cd29 ct29), sl29⟩) (c29 : PySem.W.codeIn K cd29 "_law_rows" = true) (k29 : PySem.W.keepIn K (.ref f29) = true)
    (a30 : PySem.W.nsIn K mainGlobals "_law_labels" = some (some (.ref f30))) (l30 : K.lookup f30 = some ⟨oc30, od30, .func (PySem.W.fnOf "_law_labels" "_law_labels" (defArgs s_law_labels) (defBody s_law_labels) (defScope s_law_labels) .none kV30 dc30 pm30 an30 cd30 ct30), sl30⟩) (c30 : PySem.W.codeIn K cd30 "_law_labels" = true) (k30 : PySem.W.keepIn K (.ref f30) = true)
    (a31 : PySem.W.nsIn K mainGlobals "_law_task" = some (some (.ref f31))) (l31 : K.lookup f31 = some ⟨oc31, od31, .func (PySem.W.fnOf "_law_task" "_law_task" (defArgs s_law_task) (defBody s_law_task) (defScope s_law_task) .none kV31 dc31 pm31 an31 cd31 ct31), sl31⟩) (c31 : PySem.W.codeIn K cd31 "_law_task" = true) (k31 : PySem.W.keepIn K (.ref f31) = true)
    (a32 : PySem.W.nsIn K mainGlobals "_law_odd" = some (some (.ref f32))) (l32 : K.lookup f32 = some ⟨oc32, od32, .func (PySem.W.fnOf "_law_odd" "_law_odd" (defArgs s_law_odd) (defBody s_law_odd) (defScope s_law_odd) .none kV32 dc32 pm32 an32 cd32 ct32), sl32⟩) (c32 : PySem.W.codeIn K cd32 "_law_odd" = true) (k32 : PySem.W.keepIn K (.ref f32) = true)
    (a33 : PySem.W.nsIn K mainGlobals "_law_label_changes" = some (some (.ref f33))) (l33 : K.lookup f33 = some ⟨oc33, od33, .func (PySem.W.fnOf "_law_label_changes" "_law_label_changes" (defArgs s_law_label_changes) (defBody s_law_label_changes) (defScope s_law_label_changes) .none kV33 dc33 pm33 an33 cd33 ct33), sl33⟩) (c33 : PySem.W.codeIn K cd33 "_law_label_changes" = true) (k33 : PySem.W.keepIn K (.ref f33) = true)
    (a34 : PySem.W.nsIn K mainGlobals "_law_row_changes" = some (some (.ref f34))) (l34 : K.lookup f34 = some ⟨oc34, od34, .func (PySem.W.fnOf "_law_row_changes" "_law_row_changes" (defArgs s_law_row_changes) (defBody s_law_row_changes) (defScope s_law_row_changes) .none kV34 dc34 pm34 an34 cd34 ct34), sl34⟩) (c34 : PySem.W.codeIn K cd34 "_law_row_changes" = true) (k34 : PySem.W.keepIn K (.ref f34) = true)
    (a35 : PySem.W.nsIn K mainGlobals "_law_rows_changes" = some (some (.ref f35))) (l35 : K.lookup f35 = some ⟨oc35, od35, .func (PySem.W.fnOf "_law_rows_changes" "_law_rows_changes" (defArgs s_law_rows_changes) (defBody s_law_rows_changes) (defScope s_law_rows_changes) .none kV35 dc35 pm35 an35 cd35 ct35), sl35⟩) (c35 : PySem.W.codeIn K cd35 "_law_rows_changes" = true) (k35 : PySem.W.keepIn K (.ref f35) = true)
    (a36 : PySem.W.nsIn K mainGlobals "_law_side_changes" = some (some (.ref f36))) (l36 : K.lookup f36 = some ⟨oc36, od36, .func (PySem.W.fnOf "_law_side_changes" "_law_side_changes" (defArgs s_law_side_changes) (defBody s_law_side_changes) (defScope s_law_side_changes) .none kV36 dc36 pm36 an36 cd36 ct36), sl36⟩) (c36 : PySem.W.codeIn K cd36 "_law_side_changes" = true) (k36 : PySem.W.keepIn K (.ref f36) = true)
    (a37 : PySem.W.nsIn K mainGlobals "_law_changed" = some (some (.ref f37))) (l37 : K.lookup f37 = some ⟨oc37, od37, .func (PySem.W.fnOf "_law_changed" "_law_changed" (defArgs s_law_changed) (defBody s_law_changed) (defScope s_law_changed) .none kV37 dc37 pm37 an37 cd37 ct37), sl37⟩) (c37 : PySem.W.codeIn K cd37 "_law_changed" = true) (k37 : PySem.W.keepIn K (.ref f37) = true)
    (a38 : PySem.W.nsIn K mainGlobals "_law_rows_right" = some (some (.ref f38))) (l38 : K.lookup f38 = some ⟨oc38, od38, .func (PySem.W.fnOf "_law_rows_right" "_law_rows_right" (defArgs s_law_rows_right) (defBody s_law_rows_right) (defScope s_law_rows_right) .none kV38 dc38 pm38 an38 cd38 ct38), sl38⟩) (c38 : PySem.W.codeIn K cd38 "_law_rows_right" = true) (k38 : PySem.W.keepIn K (.ref f38) = true)
    (a39 : PySem.W.nsIn K mainGlobals "_law_right" = some (some (.ref f39))) (l39 : K.lookup f39 = some ⟨oc39, od39, .func (PySem.W.fnOf "_law_right" "_law_right" (defArgs s_law_right) (defBody s_law_right) (defScope s_law_right) .none kV39 dc39 pm39 an39 cd39 ct39), sl39⟩) (c39 : PySem.W.codeIn K cd39 "_law_right" = true) (k39 : PySem.W.keepIn K (.ref f39) = true)
    (a40 : PySem.W.nsIn K mainGlobals "_law_only_bad_task" = some (some (.ref f40))) (l40 : K.lookup f40 = some ⟨oc40, od40, .func (PySem.W.fnOf "_law_only_bad_task" "_law_only_bad_task" (defArgs s_law_only_bad_task) (defBody s_law_only_bad_task) (defScope s_law_only_bad_task) .none kV40 dc40 pm40 an40 cd40 ct40), sl40⟩) (c40 : PySem.W.codeIn K cd40 "_law_only_bad_task" = true) (k40 : PySem.W.keepIn K (.ref f40) = true)
    (a41 : PySem.W.nsIn K mainGlobals "_law_asked" = some (some (.ref f41))) (l41 : K.lookup f41 = some ⟨oc41, od41, .func (PySem.W.fnOf "_law_asked" "_law_asked" (defArgs s_law_asked) (defBody s_law_asked) (defScope s_law_asked) .none kV41 dc41 pm41 an41 cd41 ct41), sl41⟩) (c41 : PySem.W.codeIn K cd41 "_law_asked" = true) (k41 : PySem.W.keepIn K (.ref f41) = true)
    (a42 : PySem.W.nsIn K mainGlobals "_law_all" = some (some (.ref f42))) (l42 : K.lookup f42 = some ⟨oc42, od42, .func (PySem.W.fnOf "_law_all" "_law_all" (defArgs s_law_all) (defBody s_law_all) (defScope s_law_all) .none kV42 dc42 pm42 an42 cd42 ct42), sl42⟩) (c42 : PySem.W.codeIn K cd42 "_law_all" = true) (k42 : PySem.W.keepIn K (.ref f42) = true)
    (a43 : PySem.W.nsIn K mainGlobals "law" = some (some (.ref f43))) (l43 : K.lookup f43 = some ⟨oc43, od43, .func (PySem.W.fnOf "law" "law" (defArgs slaw) (defBody slaw) (defScope slaw) .none kV43 dc43 pm43 an43 cd43 ct43), sl43⟩) (c43 : PySem.W.codeIn K cd43 "law" = true) (k43 : PySem.W.keepIn K (.ref f43) = true)
    (gBadTask : PySem.W.nsIn K mainGlobals "BadTask" = some (some (.ref CBadTask))) (xBadTask : PySem.W.excIn K CBadTask [.type "ValueError", .type "Exception", .type "BaseException", .type "object"] "ValueError.__new__" = true) (kBadTask : PySem.W.keepIn K (.ref CBadTask) = true) (bBadTask : PySem.W.subIn K (.ref CBadTask) (.type "BaseException") = some true) (tBadTask : PySem.W.typeIn K (.ref CBadTask) = some (.type "type")) (iBadTask : PySem.W.isClsIn K CBadTask = true)
    (gLookError : PySem.W.nsIn K mainGlobals "LookError" = some (some (.ref CLookError))) (xLookError : PySem.W.excIn K CLookError [.type "ValueError", .type "Exception", .type "BaseException", .type "object"] "ValueError.__new__" = true) (kLookError : PySem.W.keepIn K (.ref CLookError) = true) (bLookError : PySem.W.subIn K (.ref CLookError) (.type "BaseException") = some true) (tLookError : PySem.W.typeIn K (.ref CLookError) = some (.type "type")) (iLookError : PySem.W.isClsIn K CLookError = true)
    (sBadTaskBadTask : PySem.W.subIn K (.ref CBadTask) (.ref CBadTask) = some true)
    (gBadAlgorithm : PySem.W.nsIn K mainGlobals "BadAlgorithm" = some (some (.ref CBadAlgorithm)))
    (gBadNetwork : PySem.W.nsIn K mainGlobals "BadNetwork" = some (some (.ref CBadNetwork)))
    (gBadReach : PySem.W.nsIn K mainGlobals "BadReach" = some (some (.ref CBadReach)))
    (gBadEasing : PySem.W.nsIn K mainGlobals "BadEasing" = some (some (.ref CBadEasing)))
    (gNoRows : PySem.W.nsIn K mainGlobals "NoRows" = some (some (.ref CNoRows)))
    (gTooMany : PySem.W.nsIn K mainGlobals "TooMany" = some (some (.ref CTooMany)))
    (gBadText : PySem.W.nsIn K mainGlobals "BadText" = some (some (.ref CBadText)))
    (u1 : PySem.W.findIn K (.ref CBadTask) "__getattribute__" = some (some (.builtin "BaseException.__getattribute__")))
    (u2 : PySem.W.findIn K (.ref CBadTask) "__getattr__" = some none)
    (u3 : PySem.W.hasDictIn K CBadTask = true)
    (u4 : PySem.W.findIn K (.ref CBadTask) "__class__" = some (some (.builtin "object.__class__")))
    (u5 : PySem.W.specialIn K (.builtin "object.__class__") "__get__" = some (some (.builtin "getset_descriptor.__get__")))
    (u6 : PySem.W.takesIn K (.builtin "object.__class__") = some true)
    (u7 : PySem.W.mroIn K CBadTask (.type "object") = some true)
    (w0 : PySem.W.kitOne K (.ref CBadTask) (.ref CLookError) = some true)
    (w00 : PySem.W.kitOne K (.ref CBadTask) (.type "ValueError") = some true)
    (wBadAlgorithm : PySem.W.kitOne K (.ref CBadTask) (.ref CBadAlgorithm) = some false)
    (wBadNetwork : PySem.W.kitOne K (.ref CBadTask) (.ref CBadNetwork) = some false)
    (wBadReach : PySem.W.kitOne K (.ref CBadTask) (.ref CBadReach) = some false)
    (wBadEasing : PySem.W.kitOne K (.ref CBadTask) (.ref CBadEasing) = some false)
    (wNoRows : PySem.W.kitOne K (.ref CBadTask) (.ref CNoRows) = some false)
    (wTooMany : PySem.W.kitOne K (.ref CBadTask) (.ref CTooMany) = some false)
    (wBadText : PySem.W.kitOne K (.ref CBadTask) (.ref CBadText) = some false)
    (zabs : PySem.W.nsIn K mainGlobals "abs" = some none)
    (zint : PySem.W.nsIn K mainGlobals "int" = some none)
    (zlen : PySem.W.nsIn K mainGlobals "len" = some none)
    (zrange : PySem.W.nsIn K mainGlobals "range" = some none)
    (ztuple : PySem.W.nsIn K mainGlobals "tuple" = some none)
    (zisinstance : PySem.W.nsIn K mainGlobals "isinstance" = some none)
    (zbool : PySem.W.nsIn K mainGlobals "bool" = some none)
    (zrepr : PySem.W.nsIn K mainGlobals "repr" = some none)
    (zlist : PySem.W.nsIn K mainGlobals "list" = some none)
    (zall : PySem.W.nsIn K mainGlobals "all" = some none)
    (zzip : PySem.W.nsIn K mainGlobals "zip" = some none)
    (zsorted : PySem.W.nsIn K mainGlobals "sorted" = some none)
    (zstr : PySem.W.nsIn K mainGlobals "str" = some none)
    (zValueError : PySem.W.nsIn K mainGlobals "ValueError" = some none)
    {tkLEAST_COLOURS : Tok} (qLEAST_COLOURS : PySem.W.nsIn K mainGlobals "LEAST_COLOURS" = some (some (.int 2 tkLEAST_COLOURS)))
    {tkMOST_COLOURS : Tok} (qMOST_COLOURS : PySem.W.nsIn K mainGlobals "MOST_COLOURS" = some (some (.int 4 tkMOST_COLOURS)))
    {tkMOST_INPUTS : Tok} (qMOST_INPUTS : PySem.W.nsIn K mainGlobals "MOST_INPUTS" = some (some (.int 4 tkMOST_INPUTS)))
    {tkMOST_LABELS : Tok} (qMOST_LABELS : PySem.W.nsIn K mainGlobals "MOST_LABELS" = some (some (.int 60 tkMOST_LABELS)))
    {tkMOST_ROWS : Tok} (qMOST_ROWS : PySem.W.nsIn K mainGlobals "MOST_ROWS" = some (some (.int 4000 tkMOST_ROWS)))
    (zsys : K.lookup sysModules = none) :
    ∃ fd : FuncData, K.lookup sysModules = none ∧ (∀ (s : Shared) (v : Value), BindsTo s fd ⟨[v], []⟩ [("script", v)]) ∧ ∀ base : Heap, K.In base → base.Ns mainGlobals mg → FnG l.prog w K mg base 10 fa fd ["script"] (spLaw K) := by
  have e := hfa.symm.trans (PySem.W.mg_of X G a43)
  cases e
  have B : Blt mg := ⟨PySem.W.mg_none_of X G zabs, PySem.W.mg_none_of X G zint, PySem.W.mg_none_of X G zlen, PySem.W.mg_none_of X G zrange, PySem.W.mg_none_of X G ztuple, PySem.W.mg_none_of X G zisinstance, PySem.W.mg_none_of X G zbool, PySem.W.mg_none_of X G zrepr, PySem.W.mg_none_of X G zlist, PySem.W.mg_none_of X G zall, PySem.W.mg_none_of X G zzip, PySem.W.mg_none_of X G zsorted, PySem.W.mg_none_of X G zstr, PySem.W.mg_none_of X G zValueError⟩
  have T : Cst mg := ⟨⟨_, PySem.W.mg_of X G qLEAST_COLOURS⟩, ⟨_, PySem.W.mg_of X G qMOST_COLOURS⟩, ⟨_, PySem.W.mg_of X G qMOST_INPUTS⟩, ⟨_, PySem.W.mg_of X G qMOST_LABELS⟩, ⟨_, PySem.W.mg_of X G qMOST_ROWS⟩⟩
  have eBadTask : Err K mg "BadTask" CBadTask := ⟨xBadTask, PySem.W.mg_of X G gBadTask, kBadTask, bBadTask, tBadTask⟩
  have eLookError : Err K mg "LookError" CLookError := ⟨xLookError, PySem.W.mg_of X G gLookError, kLookError, bLookError, tLookError⟩
  have hBadTaskBadTask := exm_of2 bBadTask iBadTask tBadTask sBadTaskBadTask
  have R : Errs K mg CBadTask := ⟨⟨u1, u2, bBadTask, u3, u4, u5, u6, u7⟩, ⟨_, PySem.W.mg_of X G gLookError, w0⟩, w00, ⟨_, PySem.W.mg_of X G gBadAlgorithm, wBadAlgorithm⟩, ⟨_, PySem.W.mg_of X G gBadNetwork, wBadNetwork⟩, ⟨_, PySem.W.mg_of X G gBadReach, wBadReach⟩, ⟨_, PySem.W.mg_of X G gBadEasing, wBadEasing⟩, ⟨_, PySem.W.mg_of X G gNoRows, wNoRows⟩, ⟨_, PySem.W.mg_of X G gTooMany, wTooMany⟩, ⟨_, PySem.W.mg_of X G gBadText, wBadText⟩⟩
  have dis_number : Def K mg "is_number" sis_number ["value", "low", "high"] := def_mk X G a11 l11 c11 k11 fun _ _ _ _ _ _ us hl => match us, hl with | [_, _, _], _ => rfl
  have dproduct_of : Def K mg "product_of" sproduct_of ["numbers"] := def_mk X G a12 l12 c12 k12 fun _ _ _ _ _ _ us hl => match us, hl with | [_], _ => rfl
  have dcheck_task : Def K mg "check_task" scheck_task ["task"] := def_mk X G a19 l19 c19 k19 fun _ _ _ _ _ _ us hl => match us, hl with | [_], _ => rfl
  have dis_task : Def K mg "is_task" sis_task ["task"] := def_mk X G a20 l20 c20 k20 fun _ _ _ _ _ _ us hl => match us, hl with | [_], _ => rfl
  have dare_labels : Def K mg "are_labels" sare_labels ["D", "labels"] := def_mk X G a21 l21 c21 k21 fun _ _ _ _ _ _ us hl => match us, hl with | [_, _], _ => rfl
  have d_are_inputs : Def K mg "_are_inputs" s_are_inputs ["allowed", "labels"] := def_mk X G a22 l22 c22 k22 fun _ _ _ _ _ _ us hl => match us, hl with | [_, _], _ => rfl
  have d_are_rows : Def K mg "_are_rows" s_are_rows ["rows", "labels"] := def_mk X G a23 l23 c23 k23 fun _ _ _ _ _ _ us hl => match us, hl with | [_, _], _ => rfl
  have dis_row : Def K mg "is_row" sis_row ["row", "labels"] := def_mk X G a24 l24 c24 k24 fun _ _ _ _ _ _ us hl => match us, hl with | [_, _], _ => rfl
  have d_law_draws : Def K mg "_law_draws" s_law_draws ["script", "many"] := def_mk X G a26 l26 c26 k26 fun _ _ _ _ _ _ us hl => match us, hl with | [_, _], _ => rfl
  have d_law_take : Def K mg "_law_take" s_law_take ["hand", "many"] := def_mk X G a27 l27 c27 k27 fun _ _ _ _ _ _ us hl => match us, hl with | [_, _], _ => rfl
  have d_law_integer : Def K mg "_law_integer" s_law_integer ["value"] := def_mk X G a28 l28 c28 k28 fun _ _ _ _ _ _ us hl => match us, hl with | [_], _ => rfl
  have d_law_rows : Def K mg "_law_rows" s_law_rows ["hand", "labels"] := def_mk X G a29 l29 c29 k29 fun _ _ _ _ _ _ us hl => match us, hl with | [_, _], _ => rfl
  have d_law_labels : Def K mg "_law_labels" s_law_labels ["hand", "colours"] := def_mk X G a30 l30 c30 k30 fun _ _ _ _ _ _ us hl => match us, hl with | [_, _], _ => rfl
  have d_law_task : Def K mg "_law_task" s_law_task ["hand"] := def_mk X G a31 l31 c31 k31 fun _ _ _ _ _ _ us hl => match us, hl with | [_], _ => rfl
  have d_law_odd : Def K mg "_law_odd" s_law_odd ["hand"] := def_mk X G a32 l32 c32 k32 fun _ _ _ _ _ _ us hl => match us, hl with | [_], _ => rfl
  have d_law_label_changes : Def K mg "_law_label_changes" s_law_label_changes ["hand", "task"] := def_mk X G a33 l33 c33 k33 fun _ _ _ _ _ _ us hl => match us, hl with | [_, _], _ => rfl
  have d_law_row_changes : Def K mg "_law_row_changes" s_law_row_changes ["hand", "row", "labels"] := def_mk X G a34 l34 c34 k34 fun _ _ _ _ _ _ us hl => match us, hl with | [_, _, _], _ => rfl
  have d_law_rows_changes : Def K mg "_law_rows_changes" s_law_rows_changes ["hand", "rows", "labels"] := def_mk X G a35 l35 c35 k35 fun _ _ _ _ _ _ us hl => match us, hl with | [_, _, _], _ => rfl
  have d_law_side_changes : Def K mg "_law_side_changes" s_law_side_changes ["hand", "side", "labels"] := def_mk X G a36 l36 c36 k36 fun _ _ _ _ _ _ us hl => match us, hl with | [_, _, _], _ => rfl
  have d_law_changed : Def K mg "_law_changed" s_law_changed ["hand", "task"] := def_mk X G a37 l37 c37 k37 fun _ _ _ _ _ _ us hl => match us, hl with | [_, _], _ => rfl
  have d_law_rows_right : Def K mg "_law_rows_right" s_law_rows_right ["rows", "labels"] := def_mk X G a38 l38 c38 k38 fun _ _ _ _ _ _ us hl => match us, hl with | [_, _], _ => rfl
  have d_law_right : Def K mg "_law_right" s_law_right ["value"] := def_mk X G a39 l39 c39 k39 fun _ _ _ _ _ _ us hl => match us, hl with | [_], _ => rfl
  have d_law_only_bad_task : Def K mg "_law_only_bad_task" s_law_only_bad_task ["fault"] := def_mk X G a40 l40 c40 k40 fun _ _ _ _ _ _ us hl => match us, hl with | [_], _ => rfl
  have d_law_asked : Def K mg "_law_asked" s_law_asked ["value"] := def_mk X G a41 l41 c41 k41 fun _ _ _ _ _ _ us hl => match us, hl with | [_], _ => rfl
  have d_law_all : Def K mg "_law_all" s_law_all ["script"] := def_mk X G a42 l42 c42 k42 fun _ _ _ _ _ _ us hl => match us, hl with | [_], _ => rfl
  refine ⟨PySem.W.fnOf "law" "law" (defArgs slaw) (defBody slaw) (defScope slaw) .none kV43 dc43 pm43 an43 cd43 ct43, zsys, fun s v => .of_eq rfl, fun base _ _ => ?_⟩
  have gtake : Has l.prog w K mg base CX0 1 "_law_take" ["hand", "many"] (spTake K) := d_law_take.has fun f fd F => ok_take B F
  have gdraws : Has l.prog w K mg base CX0 1 "_law_draws" ["script", "many"] (spDraws K) := d_law_draws.has fun f fd F => ok_draws B F
  have gnum : Has l.prog w K mg base CX0 1 "is_number" ["value", "low", "high"] (spNumber K) := dis_number.has fun f fd F => ok_number B F
  have gprod : Has l.prog w K mg base CX0 1 "product_of" ["numbers"] (spProduct K) := dproduct_of.has fun f fd F => ok_product F
  have grow : Has l.prog w K mg base CX0 2 "is_row" ["row", "labels"] (spRow K) := dis_row.has fun f fd F => ok_row B gnum F
  have grows : Has l.prog w K mg base CX0 3 "_are_rows" ["rows", "labels"] (spRows K) := d_are_rows.has fun f fd F => ok_rows B grow F
  have ginp : Has l.prog w K mg base CX0 4 "_are_inputs" ["allowed", "labels"] (spInputs K) := d_are_inputs.has fun f fd F => ok_inputs B T gnum grows F
  have glab : Has l.prog w K mg base CX0 2 "are_labels" ["D", "labels"] (spLabels K) := dare_labels.has fun f fd F => ok_labels B T gnum gprod F
  have gtb : Has l.prog w K mg base CX0 5 "is_task" ["task"] (spTaskB K) := dis_task.has fun f fd F => ok_taskb B glab ginp F
  have gct : Has l.prog w K mg base (L2N.CX l.prog w) 6 "check_task" ["task"] (spCheckT K CBadTask) := dcheck_task.has fun f fd F => ok_checkt eBadTask gtb F
  have glr : Has l.prog w K mg base CX0 2 "_law_rows" ["hand", "labels"] (spLRows K) := d_law_rows.has fun f fd F => ok_lrows B gtake F
  have gll : Has l.prog w K mg base CX0 2 "_law_labels" ["hand", "colours"] (spLLabels K) := d_law_labels.has fun f fd F => ok_llabels B gtake F
  have glt : Has l.prog w K mg base CX0 3 "_law_task" ["hand"] (spLTask K) := d_law_task.has fun f fd F => ok_ltask B gtake gll glr F
  have godd : Has l.prog w K mg base CX0 2 "_law_odd" ["hand"] (spOdd K) := d_law_odd.has fun f fd F => ok_odd B gtake F
  have glc : Has l.prog w K mg base CX0 2 "_law_label_changes" ["hand", "task"] (spLabC K) := d_law_label_changes.has fun f fd F => ok_labelc B gtake F
  have grc : Has l.prog w K mg base CX0 2 "_law_row_changes" ["hand", "row", "labels"] (spRowC K) := d_law_row_changes.has fun f fd F => ok_rowc B gtake F
  have grsc : Has l.prog w K mg base CX0 3 "_law_rows_changes" ["hand", "rows", "labels"] (spRowsC K) := d_law_rows_changes.has fun f fd F => ok_rowsc B gtake godd grc F
  have gsc : Has l.prog w K mg base CX0 4 "_law_side_changes" ["hand", "side", "labels"] (spSideC K) := d_law_side_changes.has fun f fd F => ok_sidec B gtake godd grsc F
  have gch : Has l.prog w K mg base CX0 5 "_law_changed" ["hand", "task"] (spChg K) := d_law_changed.has fun f fd F => ok_chg B gtake godd glc gsc F
  have gin : Has l.prog w K mg base CX0 1 "_law_integer" ["value"] (spInteger K) := d_law_integer.has fun f fd F => ok_integer B F
  have hin : HasE l.prog w K mg base 1 "_law_integer" ["value"] (fun _ => spInteger K) := d_law_integer.hasE fun f fd F => ho_integer B F
  have grr : Has l.prog w K mg base CX0 2 "_law_rows_right" ["rows", "labels"] (spRR K) := d_law_rows_right.has fun f fd F => ok_rr B gin F
  have hrr : HasE l.prog w K mg base 2 "_law_rows_right" ["rows", "labels"] (fun _ => spRR K) := d_law_rows_right.hasE fun f fd F => ho_rr B hin F
  have gri : Has l.prog w K mg base CX0 3 "_law_right" ["value"] (spRight K) := d_law_right.has fun f fd F => ok_right B gin grr F
  have hri : HasE l.prog w K mg base 3 "_law_right" ["value"] (fun _ => spRight K) := d_law_right.hasE fun f fd F => ho_right B hin hrr F
  have hon : HasE l.prog w K mg base 1 "_law_only_bad_task" ["fault"] (spOnly CBadTask) := d_law_only_bad_task.hasE fun f fd F => ho_only B R F
  have gas : HasG l.prog w K mg base 8 "_law_asked" ["value"] (spAskV K) := d_law_asked.hasG fun f fd F => ok_asked B eBadTask hBadTaskBadTask gct gri hri hon F
  have gall : HasG l.prog w K mg base 9 "_law_all" ["script"] (spLaw K) := d_law_all.hasG fun f fd F => ok_all B gdraws glt gch gas F
  exact ok_law B eLookError gall (fun_mk l43 c43 k43)
end Lw
open PySem PySem.W PyProof.Rows
set_option maxRecDepth 100000 in
set_option maxHeartbeats 0 in
theorem PySem.Challenge.cw_looksfar_k01_check_task_holds : PySem.Challenge.rw_looksfar_k01_check_task.Holds := by
  w_on; o_law; k_head; (case hw => w_witness2)
  k_fill
  refine LG.walk_S (l := PySem.Challenge.rw_looksfar_k01_check_task) (n := 63) (k := 10) (sp := Lw.spLaw) (x := "script") rfl (by decide) rfl ⟨rfl, by decide, by decide⟩ (by decide +kernel) (fun w h Y => PySem.W.kIn_of Y) ?F (fun K H a ns hl S hS => ⟨a, ns, rfl, hS, hl, S, fun _ => rfl⟩)
  case F =>
    intro w mg fa h KX G hmg
    refine' Lw.all_mk KX G hmg ?a11 ?l11 ?c11 ?k11 ?a12 ?l12 ?c12 ?k12 ?a19 ?l19 ?c19 ?k19 ?a20 ?l20 ?c20 ?k20 ?a21 ?l21 ?c21 ?k21 ?a22 ?l22 ?c22 ?k22 ?a23 ?l23 ?c23 ?k23 ?a24 ?l24 ?c24 ?k24 ?a26 ?l26 ?c26 ?k26 ?a27 ?l27 ?c27 ?k27 ?a28 ?l28 ?c28 ?k28 ?a29 ?l29 ?c29 ?k29 ?a30 ?l30 ?c30 ?k30 ?a31 ?l31 ?c31 ?k31 ?a32 ?l32 ?c32 ?k32 ?a33 ?l33 ?c33 ?k33 ?a34 ?l34 ?c34 ?k34 ?a35 ?l35 ?c35 ?k35 ?a36 ?l36 ?c36 ?k36 ?a37 ?l37 ?c37 ?k37 ?a38 ?l38 ?c38 ?k38 ?a39 ?l39 ?c39 ?k39 ?a40 ?l40 ?c40 ?k40 ?a41 ?l41 ?c41 ?k41 ?a42 ?l42 ?c42 ?k42 ?a43 ?l43 ?c43 ?k43 ?gBadTask ?xBadTask ?kBadTask ?bBadTask ?tBadTask ?iBadTask ?gLookError ?xLookError ?kLookError ?bLookError ?tLookError ?iLookError ?sBadTaskBadTask ?gBadAlgorithm ?gBadNetwork ?gBadReach ?gBadEasing ?gNoRows ?gTooMany ?gBadText ?u1 ?u2 ?u3 ?u4 ?u5 ?u6 ?u7 ?w0 ?w00 ?wBadAlgorithm ?wBadNetwork ?wBadReach ?wBadEasing ?wNoRows ?wTooMany ?wBadText ?zabs ?zint ?zlen ?zrange ?ztuple ?zisinstance ?zbool ?zrepr ?zlist ?zall ?zzip ?zsorted ?zstr ?zValueError ?qLEAST_COLOURS ?qMOST_COLOURS ?qMOST_INPUTS ?qMOST_LABELS ?qMOST_ROWS ?zsys
    (case a11 => k_is)
    (case l11 => k_is)
    (case c11 => k_is)
    (case k11 => k_is)
    (case a12 => k_is)
    (case l12 => k_is)
    (case c12 => k_is)
    (case k12 => k_is)
    (case a19 => k_is)
    (case l19 => k_is)
    (case c19 => k_is)
    (case k19 => k_is)
    (case a20 => k_is)
    (case l20 => k_is)
    (case c20 => k_is)
    (case k20 => k_is)
    (case a21 => k_is)
    (case l21 => k_is)
    (case c21 => k_is)
    (case k21 => k_is)
    (case a22 => k_is)
    (case l22 => k_is)
    (case c22 => k_is)
    (case k22 => k_is)
    (case a23 => k_is)
    (case l23 => k_is)
    (case c23 => k_is)
    (case k23 => k_is)
    (case a24 => k_is)
    (case l24 => k_is)
    (case c24 => k_is)
    (case k24 => k_is)
    (case a26 => k_is)
    (case l26 => k_is)
    (case c26 => k_is)
    (case k26 => k_is)
    (case a27 => k_is)
    (case l27 => k_is)
    (case c27 => k_is)
    (case k27 => k_is)
    (case a28 => k_is)
    (case l28 => k_is)
    (case c28 => k_is)
    (case k28 => k_is)
    (case a29 => k_is)
    (case l29 => k_is)
    (case c29 => k_is)
    (case k29 => k_is)
    (case a30 => k_is)
    (case l30 => k_is)
    (case c30 => k_is)
    (case k30 => k_is)
    (case a31 => k_is)
    (case l31 => k_is)
    (case c31 => k_is)
    (case k31 => k_is)
    (case a32 => k_is)
    (case l32 => k_is)
    (case c32 => k_is)
    (case k32 => k_is)
    (case a33 => k_is)
    (case l33 => k_is)
    (case c33 => k_is)
    (case k33 => k_is)
    (case a34 => k_is)
    (case l34 => k_is)
    (case c34 => k_is)
    (case k34 => k_is)
    (case a35 => k_is)
    (case l35 => k_is)
    (case c35 => k_is)
    (case k35 => k_is)
    (case a36 => k_is)
    (case l36 => k_is)
    (case c36 => k_is)
    (case k36 => k_is)
    (case a37 => k_is)
    (case l37 => k_is)
    (case c37 => k_is)
    (case k37 => k_is)
    (case a38 => k_is)
    (case l38 => k_is)
    (case c38 => k_is)
    (case k38 => k_is)
    (case a39 => k_is)
    (case l39 => k_is)
    (case c39 => k_is)
    (case k39 => k_is)
    (case a40 => k_is)
    (case l40 => k_is)
    (case c40 => k_is)
    (case k40 => k_is)
    (case a41 => k_is)
    (case l41 => k_is)
    (case c41 => k_is)
    (case k41 => k_is)
    (case a42 => k_is)
    (case l42 => k_is)
    (case c42 => k_is)
    (case k42 => k_is)
    (case a43 => k_is)
    (case l43 => k_is)
    (case c43 => k_is)
    (case k43 => k_is)
    (case gBadTask => k_is)
    (case xBadTask => k_exc)
    (case kBadTask => k_is)
    (case bBadTask => k_is)
    (case tBadTask => k_is)
    (case iBadTask => k_is)
    (case gLookError => k_is)
    (case xLookError => k_exc)
    (case kLookError => k_is)
    (case bLookError => k_is)
    (case tLookError => k_is)
    (case iLookError => k_is)
    (case sBadTaskBadTask => first | rfl | k_is)
    (case gBadAlgorithm => k_is)
    (case gBadNetwork => k_is)
    (case gBadReach => k_is)
    (case gBadEasing => k_is)
    (case gNoRows => k_is)
    (case gTooMany => k_is)
    (case gBadText => k_is)
    (case u1 => first | rfl | k_is | decide +kernel)
    (case u2 => first | rfl | k_is | decide +kernel)
    (case u3 => first | rfl | k_is | decide +kernel)
    (case u4 => first | rfl | k_is | decide +kernel)
    (case u5 => first | rfl | k_is | decide +kernel)
    (case u6 => first | rfl | k_is | decide +kernel)
    (case u7 => first | rfl | k_is | decide +kernel)
    (case w0 => first | rfl | k_is | decide +kernel)
    (case w00 => first | rfl | k_is | decide +kernel)
    (case wBadAlgorithm => first | rfl | k_is | decide +kernel)
    (case wBadNetwork => first | rfl | k_is | decide +kernel)
    (case wBadReach => first | rfl | k_is | decide +kernel)
    (case wBadEasing => first | rfl | k_is | decide +kernel)
    (case wNoRows => first | rfl | k_is | decide +kernel)
    (case wTooMany => first | rfl | k_is | decide +kernel)
    (case wBadText => first | rfl | k_is | decide +kernel)
    (case zabs => k_is)
    (case zint => k_is)
    (case zlen => k_is)
    (case zrange => k_is)
    (case ztuple => k_is)
    (case zisinstance => k_is)
    (case zbool => k_is)
    (case zrepr => k_is)
    (case zlist => k_is)
    (case zall => k_is)
    (case zzip => k_is)
    (case zsorted => k_is)
    (case zstr => k_is)
    (case zValueError => k_is)
    (case qLEAST_COLOURS => k_is)
    (case qMOST_COLOURS => k_is)
    (case qMOST_INPUTS => k_is)
    (case qMOST_LABELS => k_is)
    (case qMOST_ROWS => k_is)
    (case zsys => rfl)
