package recipe

import (
	"strings"

	"herald/api"
)

func copiedTexts(list []string) []string {
	var texts []string
	for _, text := range list {
		texts = append(texts, strings.Clone(text))
	}
	return texts
}

func copiedOps(list []api.Op) []api.Op {
	ops := make([]api.Op, len(list))
	for i, o := range list {
		o.Place, o.Data = strings.Clone(o.Place), strings.Clone(o.Data)
		ops[i] = o
	}
	return ops
}

func copiedShot(s api.Shot) api.Shot {
	nodes := make([]api.Seen, len(s.Nodes))
	for i, n := range s.Nodes {
		nodes[i] = api.Seen{Place: strings.Clone(n.Place), Data: strings.Clone(n.Data), Version: n.Version}
	}
	s.Place, s.Nodes = strings.Clone(s.Place), nodes
	return s
}
