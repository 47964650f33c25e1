package rule

import (
	"strings"

	"messuage/api"
	"messuage/policy"
)

const (
	// maxName is how many signs a name may have.
	maxName = 16
	// between stands behind a line's name, and end behind its policy.
	between = ": "
	end     = "\n"
)

// List is the names and policies of lines; with an error, the number of the first line that is wrong.
func List(text string) ([]string, []policy.Policy, int, api.Errno) {
	var names []string
	var list []policy.Policy
	seen := map[string]struct{}{}
	for text != "" {
		line, rest, ended := strings.Cut(text, end)
		name, p, e := parseLine(line)
		if !ended {
			e = api.ErrForm
		}
		if _, found := seen[name]; found && e == api.OK {
			e = api.ErrMap
		}
		if e != api.OK {
			return nil, nil, len(names) + 1, e
		}
		seen[name] = struct{}{}
		// A part of the text would keep all of it.
		names, list = append(names, strings.Clone(name)), append(list, p)
		text = rest
	}
	return names, list, 0, api.OK
}

// Join is the lines of policies, each with its name.
func Join(names []string, l []policy.Policy) (string, api.Errno) {
	if len(names) != len(l) {
		return "", api.ErrCount
	}
	if e := checkNames(names); e != api.OK {
		return "", e
	}
	var lines strings.Builder
	for i, p := range l {
		text, e := Text(p)
		if e != api.OK {
			return "", e
		}
		lines.WriteString(names[i] + between + text + end)
	}
	return lines.String(), api.OK
}

// parseLine is the name and the policy of a line, without its end.
func parseLine(line string) (string, policy.Policy, api.Errno) {
	name, text, found := strings.Cut(line, between)
	if !found || !isName(name) {
		return "", policy.Policy{}, api.ErrForm
	}
	p, e := Parse(text)
	return name, p, e
}

// checkNames looks at the form of all names ahead of looking whether one is there twice.
func checkNames(names []string) api.Errno {
	for _, name := range names {
		if !isName(name) {
			return api.ErrForm
		}
	}
	seen := map[string]struct{}{}
	for _, name := range names {
		if _, found := seen[name]; found {
			return api.ErrMap
		}
		seen[name] = struct{}{}
	}
	return api.OK
}

// isName tells whether a name has 1 to 16 signs a to z.
func isName(name string) bool {
	if len(name) < 1 || len(name) > maxName {
		return false
	}
	for i := range len(name) {
		if name[i] < 'a' || name[i] > 'z' {
			return false
		}
	}
	return true
}
