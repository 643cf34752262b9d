package learn_test

import (
	"go/ast"
	"go/parser"
	"go/token"
	"path/filepath"
	"strings"
	"testing"
)

// TestOrder: no expression of the package reads a field beside a call that changes
// it. Go leaves open which of the two comes first, and no answer may hang on what
// one compiler does.
func TestOrder(t *testing.T) {
	names, err := filepath.Glob("*.go")
	if err != nil {
		t.Fatal(err)
	}
	set := token.NewFileSet()
	var files []*ast.File
	for _, name := range names {
		if strings.HasSuffix(name, "_test.go") {
			continue
		}
		f, err := parser.ParseFile(set, name, nil, 0)
		if err != nil {
			t.Fatal(err)
		}
		files = append(files, f)
	}
	if len(files) == 0 {
		t.Fatal("no files")
	}
	for _, at := range open(files) {
		t.Errorf("%v: read beside a call that changes it", set.Position(at))
	}
}

// TestOpen: what TestOrder looks for is found, by way of other calls and in lists
// too, and nothing else is.
func TestOpen(t *testing.T) {
	for _, x := range []struct {
		text string
		is   bool
	}{
		{"x := append([]int{s.put()}, s.list...)", true},
		{"x := append(s.list, s.put())", true},
		{"x := append([]int{s.through()}, s.list...)", true},
		{"return s.put() + s.many", true},
		{"return s.through(), s.many", true},
		{"s.list[s.many] = s.put()", true},
		{"s.many += s.put()", true},
		{"if s.many == s.put() { return }", true},
		{"for range s.list[s.put():] { return }", true},
		{"use(s.list, s.forget())", true},
		{"first := s.put(); x := append([]int{first}, s.list...)", false},
		{"x := append(s.list, s.read())", false},
		{"return s.put() + s.other", false},
		{"s.use(s.list); return s.many", false},
		{"s.take(s.many)", false},
		{"if s.put() == 0 { return s.many }", false},
	} {
		f, err := parser.ParseFile(token.NewFileSet(), "", `package p
			func (s *a) try() {`+x.text+`}
			func (s *a) put() int { s.many++; s.list[0] = 1; return s.read() }
			func (s *a) take(n int) { s.many = n }
			func (s *a) forget() int { delete(s.list, 0) }
			func (s *a) through() int { return s.around() }
			func (s *a) around() int { if s.other == 0 { return s.put() }; return s.through() }
			func (s *a) read() int { list, other := s.list, s.other; list = nil; return s.many }`, 0)
		if err != nil {
			t.Fatal(x.text, err)
		}
		if got := open([]*ast.File{f}); len(got) > 0 != x.is {
			t.Errorf("%s: %v", x.text, got)
		}
	}
}

// open is the places where a field is read in one expression, list of results or
// assignment with a call that changes it, and not for that call alone. It goes by
// names, and by what functions of these files do.
func open(files []*ast.File) []token.Pos {
	var out []token.Pos
	by := changes(files)
	inspect(files, func(n ast.Node) {
		if !together(n) {
			return
		}
		inspect([]ast.Node{n}, func(m ast.Node) {
			if c, ok := m.(*ast.CallExpr); ok {
				out = append(out, beside(n, c, by[called(c)])...)
			}
		})
	})
	return out
}

// together tells whether the parts of n come in an order that Go leaves open.
func together(n ast.Node) bool {
	switch n.(type) {
	case *ast.AssignStmt, *ast.ReturnStmt, ast.Expr:
		return true
	}
	return false
}

// beside is where one of these fields is read in n, but not in call, whose own parts
// are all there ahead of it.
func beside(n ast.Node, call *ast.CallExpr, fields map[string]bool) []token.Pos {
	var out []token.Pos
	ast.Inspect(n, func(m ast.Node) bool {
		if s, ok := m.(*ast.SelectorExpr); ok && fields[s.Sel.Name] {
			out = append(out, s.Pos())
		}
		return m != ast.Node(call)
	})
	return out
}

// changes is which fields each function of the files changes, itself or by calls.
func changes(files []*ast.File) map[string]map[string]bool {
	by, calls := map[string]map[string]bool{}, map[string][]string{}
	inspect(files, func(n ast.Node) {
		f, ok := n.(*ast.FuncDecl)
		if !ok {
			return
		}
		name := f.Name.Name
		if by[name] == nil {
			by[name] = map[string]bool{}
		}
		inspect([]ast.Node{f}, func(n ast.Node) {
			for _, e := range targets(n) {
				by[name][field(e)] = true
			}
			if c, ok := n.(*ast.CallExpr); ok {
				calls[name] = append(calls[name], called(c))
			}
		})
		delete(by[name], "")
	})
	for more := true; more; {
		more = false
		for name, others := range calls {
			for _, other := range others {
				for f := range by[other] {
					more = more || !by[name][f]
					by[name][f] = true
				}
			}
		}
	}
	return by
}

// targets is what n changes, if it is of a kind that does.
func targets(n ast.Node) []ast.Expr {
	switch x := n.(type) {
	case *ast.AssignStmt:
		return x.Lhs
	case *ast.IncDecStmt:
		return []ast.Expr{x.X}
	case *ast.CallExpr:
		if name := called(x); name == "delete" || name == "clear" || name == "copy" {
			return x.Args[:1]
		}
	}
	return nil
}

// field is the name of the field that e is, or is a piece of; none, if it is
// neither.
func field(e ast.Expr) string {
	switch x := e.(type) {
	case *ast.SelectorExpr:
		return x.Sel.Name
	case *ast.IndexExpr:
		return field(x.X)
	case *ast.SliceExpr:
		return field(x.X)
	case *ast.StarExpr:
		return field(x.X)
	case *ast.ParenExpr:
		return field(x.X)
	}
	return ""
}

// called is the name of what c calls.
func called(c *ast.CallExpr) string {
	if f, ok := c.Fun.(*ast.Ident); ok {
		return f.Name
	}
	return field(c.Fun)
}

// inspect calls f of all that is in these nodes.
func inspect[N ast.Node](nodes []N, f func(ast.Node)) {
	for _, n := range nodes {
		ast.Inspect(n, func(m ast.Node) bool {
			if m != nil {
				f(m)
			}
			return true
		})
	}
}
